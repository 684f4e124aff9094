import PyProof.Rows.All
import Wide.All
import OpenK.AllK
import Wide.FinOn
import Lean
import PyProof.EqAt
import PyProof.EqKinds
import PyProof.TupleCall
import PySem.Challenge.RW_spanrow_k88_lines_refused
set_option Elab.async false
set_option linter.all false
set_option bootstrap.genMatcherCode false
set_option genSizeOf false
set_option maxRecDepth 100000
namespace PySem.W.Fast
def tw13534088529827550959:=Nat
def tw18116941002625536730:=Nat
def tw8235027804740399212:=Nat
def tw16857020104766995216:=Nat
def tw10571231338636149289:=Nat
def tw10596766616910722644:=Nat
def tw5509984734428707711:=Nat
def tw11019267401144436383:=Nat
def tw16189530631710984977:=Nat
def tw6524952027131281975:=Nat
def tw18092324370057204522:=Nat
def tw2678334997307465166:=Nat
def tw6271824027805593503:=Nat
def tw3908059076791473494:=Nat
def tw18383303384875512415:=Nat
def tw15409778252142857645:=Nat
def tw12746371501630146565:=Nat
def tw15610334468227862816:=Nat
def tw1361828725775466042:=Nat
def tw14850238855915035509:=Nat
def tw984191357270614339:=Nat
def tw2744066484649386973:=Nat
def tw13964722477252772888:=Nat
def tw18334799642904800299:=Nat
def tw2425421658015997809:=Nat
def tw4595214799151462094:=Nat
def tw7519289072504103395:=Nat
def tw12908744620607567750:=Nat
def tw7509517167373436470:=Nat
def tw5097332207042083370:=Nat
def tw13287356390611553868:=Nat
def tw6059364961329074370:=Nat
def tw9161331227289112947:=Nat
def tw9992325926815398191:=Nat
def tw2319199076679439885:=Nat
def tw8460904218225731696:=Nat
def tw8334725239372919412:=Nat
def tw517278073198404106:=Nat
def tw5686630618609090799:=Nat
def tw17940043602479205972:=Nat
def tw8010007965044760996:=Nat
def tw17334096864787166026:=Nat
def tw9561287203481622410:=Nat
def tw8153851544006318981:=Nat
def tw7684319713319971984:=Nat
def tw17007022071984247383:=Nat
def tw7459387513625404548:=Nat
def tw16136793144197130740:=Nat
def tw2829374311391545565:=Nat
def tw5714565984123873275:=Nat
def tw8767179624193949787:=Nat
def tw10475802323556375131:=Nat
def tw12130409793865988351:=Nat
def tw7652870282119244389:=Nat
def tw12839546060764838186:=Nat
def tw3098525946386879205:=Nat
def tw2884455397734977724:=Nat
def tw1299018578594512796:=Nat
def tw17440022898171041435:=Nat
def tw7635331487860086512:=Nat
def tw9942309960376270858:=Nat
def tw16358651646617658704:=Nat
def tw8521832868951981361:=Nat
def tw5698836285934589152:=Nat
def tw847300316666425930:=Nat
def tw6975376121063012804:=Nat
def tw7993660922217426607:=Nat
def tw16144133033438250095:=Nat
def tw10746711448205962375:=Nat
def tw18440185510166081754:=Nat
def tw12953179792843011872:=Nat
def tw13313743251120674613:=Nat
def tw9479978189467694997:=Nat
def tw547515036960343154:=Nat
def tw2057070250562511012:=Nat
def tw16821116533209525859:=Nat
def tw5925356689583485359:=Nat
def tw8762621473996171593:=Nat
def tw3375026097942166634:=Nat
def tw18332762869009050521:=Nat
def tw5259438985526143549:=Nat
def tw2197453767792493897:=Nat
def tw17881987673825645996:=Nat
def tw2853289084580912872:=Nat
def tw11432515454474674819:=Nat
def tw1476233067019138745:=Nat
def tw8459734071722424798:=Nat
def tw9891617121793624463:=Nat
def tw10319256987504157387:=Nat
def tw2179634065319051801:=Nat
def tw7901613723745154301:=Nat
def tw1642635290601791537:=Nat
def tw4440792109013896896:=Nat
def tw18261812667781186973:=Nat
def tw5648625536874734023:=Nat
def tw6328482449596940750:=Nat
def tw1411288764588325642:=Nat
def tw4583444083508920416:=Nat
def tw7636804595875206862:=Nat
def tw2459126458480617922:=Nat
def tw16465047863371380375:=Nat
def tw11875000406959155695:=Nat
def tw436772422148133008:=Nat
def tw3366976299573511309:=Nat
def tw4010677390742240987:=Nat
def tw2934285232837855887:=Nat
def tw16541693486818638274:=Nat
def tw11633957987682332360:=Nat
def tw3763284087124506744:=Nat
def tw16598821658608059329:=Nat
def tw11743270332578589491:=Nat
def tw1051842473090888715:=Nat
def tw16117919175479650334:=Nat
def tw3317852607803791656:=Nat
def tw11040744403100347865:=Nat
def tw13440035039081178039:=Nat
def tw3593496885014386036:=Nat
def tw608553953080842661:=Nat
def tw12952804293313404694:=Nat
def tw1177219712827850883:=Nat
def tw12161918432631353533:=Nat
def tw9962571824936272387:=Nat
def tw8906234893335586728:=Nat
def tw15325414342556220651:=Nat
def tw249874162410725602:=Nat
def tw4057316877896168437:=Nat
def tw144568190511907566:=Nat
def tw12819759639071653886:=Nat
def tw5245589295084548700:=Nat
def tw268264345760077069:=Nat
def tw10850319734201171730:=Nat
def tw2260630483247087169:=Nat
def tw17555869609774647996:=Nat
def tw5439034589873333561:=Nat
def tw15362129778691732911:=Nat
def tw7578721785695546685:=Nat
def tw10375354428936733914:=Nat
def tw5160027558498866786:=Nat
def tw6688869167158661000:=Nat
def tw16734295807689893740:=Nat
def tw10461961269033623391:=Nat
def tw11852459695052119655:=Nat
def tw5635185767191686581:=Nat
def tw6043382899717453670:=Nat
def tw17497589963048391110:=Nat
def tw5274790807316226655:=Nat
def tw5203479738927902481:=Nat
def tw12495823772148008814:=Nat
def tw9014776907774885978:=Nat
def tw188948675069769748:=Nat
def tw8304188411176019823:=Nat
def tw6469689607038373010:=Nat
def tw5708425403071405199:=Nat
def tw11199195283386482031:=Nat
def tw8038933151730214077:=Nat
def tw1800350619523673481:=Nat
def tw12686356704852649125:=Nat
def tw17902984948566569642:=Nat
def tw14103206710412029473:=Nat
def tw8198244206935837002:=Nat
def tw5592626203360609886:=Nat
def tw15699288119292888824:=Nat
def tw8227841973013684581:=Nat
def tw16872106818896063647:=Nat
def tw3957953860867637928:=Nat
def tw11450788013098225271:=Nat
def tw13638365341995315902:=Nat
def tw6767251742111369086:=Nat
def tw5225753580672519521:=Nat
def tw17024897566678646979:=Nat
def tw13842318734748432699:=Nat
def tw15869759960554998612:=Nat
def tw7765315567359877006:=Nat
def tw7364361617964884168:=Nat
def tw13872003353513661319:=Nat
def tw18267225519612902205:=Nat
def tw2789199545333948315:=Nat
def tw15645322102670508988:=Nat
def tw17050981008576166143:=Nat
def tw327229125260652608:=Nat
def tw4737168136589868835:=Nat
def tw13155511398897309390:=Nat
def tw13377707804158100263:=Nat
def tw842406519368466682:=Nat
def tw4225258686291897303:=Nat
def tw13423580693720402353:=Nat
def tw8468954662280736217:=Nat
def tw7791590539826557208:=Nat
def tw16372391090524924869:=Nat
def tw12245656076594146620:=Nat
def tw2938885241590983630:=Nat
def tw7169033837248970865:=Nat
def tw15933524231654831759:=Nat
def tw17287000486376739179:=Nat
def tw14009820451787561241:=Nat
def tw13445141199896104445:=Nat
def tw15269988761985227831:=Nat
def tw7116768615199114391:=Nat
def tw8934236634309576366:=Nat
def tw11432899780471059213:=Nat
def tw7986783718705734721:=Nat
def tw13114386373603854067:=Nat
def tw15649126783427345951:=Nat
def tw4623557755186013495:=Nat
def tw3405837626221517006:=Nat
def tw12954731973917947247:=Nat
def tw12060026214046907988:=Nat
def tw14268458950765808562:=Nat
def tw6900821370428888015:=Nat
def tw9234037176108632447:=Nat
def tw8584846357391817799:=Nat
def tw956360749406063183:=Nat
def tw5280360556928440039:=Nat
def tw14351030431913452374:=Nat
def tw13174099406762106479:=Nat
def tw9377928655163001067:=Nat
def tw9376295699904698372:=Nat
def tw2850947582676889083:=Nat
def tw4230981062829697632:=Nat
def tw1353458107446737135:=Nat
def tw16982758215703306995:=Nat
def tw9289983840289124088:=Nat
def tw4174589187724193887:=Nat
def tw17995574996121920888:=Nat
def tw17268607525017163301:=Nat
def tw676430181855224255:=Nat
def tw9921269192365682072:=Nat
def tw2819220685568200786:=Nat
def tw18013682762275996308:=Nat
def tw6660643696259446856:=Nat
def tw14039174898502557973:=Nat
def tw13967855362685563323:=Nat
def tw6023103295245018551:=Nat
def tw15587304120719108492:=Nat
def tw8395969671899630954:=Nat
def tw43162209301913233:=Nat
def tw16638879155434708410:=Nat
def tw579557936198729453:=Nat
def tw3491846391330601436:=Nat
def tw13784612319394715921:=Nat
def tw1223334635561855045:=Nat
def tw2072717755826933653:=Nat
def tw4757354286305106487:=Nat
def tw12566702683873864792:=Nat
def tw5214245832971969196:=Nat
def tw14011292870252406220:=Nat
def tw1533443850209959111:=Nat
def tw7923572408171850982:=Nat
def tw4569454940695515706:=Nat
def tw13555561920000611371:=Nat
def tw11329103666188129582:=Nat
def tw9627522701658357701:=Nat
def tw16155422821367262106:=Nat
def tw16179033589030793583:=Nat
def tw7221547024523557808:=Nat
def tw12538117029390540890:=Nat
def tw6280416635844917956:=Nat
def tw1968722698664740352:=Nat
def tw14412521506697067438:=Nat
def tw9033533937059231611:=Nat
def tw12802659297848059964:=Nat
def tw3263234502733761475:=Nat
def tw3368630363297010463:=Nat
def tw11120397543516941049:=Nat
def tw11925774605486389439:=Nat
def tw18394041459278189913:=Nat
def tw18142253803198988159:=Nat
def tw12358428689084258511:=Nat
def tw7243863635904395884:=Nat
def tw5079291148437252118:=Nat
def tw10073652147656410227:=Nat
def tw6216124572576740303:=Nat
def tw4694472369481563023:=Nat
def tw11961574251536519178:=Nat
def tw5801968002681271363:=Nat
def tw7623242254544297211:=Nat
def tw7956727706223050152:=Nat
def tw4966206243310351742:=Nat
def tw7036759137493867796:=Nat
def tw9183980182025741443:=Nat
def tw4536183716981742807:=Nat
def tw13714466574848398329:=Nat
def tw12951482160930381442:=Nat
def tw11451626192312566919:=Nat
def tw10768714448815810147:=Nat
def tw10584176450823549825:=Nat
def tw13256717536694631340:=Nat
def tw12169062032361544811:=Nat
def tw5989980841165237505:=Nat
def tw4132194293604714211:=Nat
def tw7472700539887543249:=Nat
def tw1385018528908133364:=Nat
def tw6644365014321559174:=Nat
def tw11523366690770711980:=Nat
def tw6791573216733563202:=Nat
def tw7136898621686814449:=Nat
def tw5703963635736141041:=Nat
def tw4588889826043954735:=Nat
def tw13024690577371671141:=Nat
def tw8636511107296294702:=Nat
def tw2718344265570632728:=Nat
def tw2423337227353446740:=Nat
def tw215960144459971662:=Nat
def tw16066277066162843958:=Nat
def tw15629436574296981812:=Nat
def tw1653160677750150520:=Nat
def tw8249603508409398677:=Nat
def tw7239203539583105998:=Nat
def tw14561001410285482366:=Nat
def tw16756669576957009449:=Nat
def tw16915489004317270040:=Nat
def tw12689798541735819635:=Nat
def tw15430596103651481607:=Nat
def tw9045852609166778021:=Nat
def tw13775195608081514269:=Nat
def tw4438649552167100262:=Nat
def tw17307974391767469209:=Nat
def tw7234191606473634054:=Nat
def tw16453142741103208644:=Nat
def tw12801992883366765782:=Nat
def tw3107659133696282177:=Nat
def tw15129047572180716827:=Nat
def tw5078287166063403256:=Nat
def tw3212666120035136422:=Nat
def tw15213989001651316396:=Nat
def tw12874318511899517185:=Nat
def tw3657168091716470628:=Nat
def tw3193152783277707290:=Nat
def tw12032829141194506457:=Nat
def tw6255934518684453920:=Nat
def tw1993056136896094942:=Nat
def tw4788118520185140719:=Nat
def tw17658861708502662772:=Nat
def tw12143317185925285787:=Nat
def tw12167973409754266682:=Nat
def tw13851122029413811680:=Nat
def tw9596419581097786065:=Nat
def tw12712233365397983942:=Nat
def tw11565569383326288992:=Nat
def tw9799411809860912643:=Nat
def tw4349171236177408839:=Nat
def tw13653426671065478456:=Nat
def tw13450551411724186624:=Nat
def tw4587639511933602565:=Nat
def tw118178444604242734:=Nat
def tw4110168627640054474:=Nat
def tw10422347421431485873:=Nat
def tw14901800970931270452:=Nat
def tw2035559327923234327:=Nat
def tw15246503198909649477:=Nat
def tw13242427037743016970:=Nat
def tw10958229500551564294:=Nat
def tw18254078495204211229:=Nat
def tw15967586397886076379:=Nat
def tw8370446217850867039:=Nat
def tw7872064185616996718:=Nat
def tw5452722903030207996:=Nat
def tw17134761051102291493:=Nat
def tw13556386718515753885:=Nat
def tw10058917738752081987:=Nat
def tw7033513807683632514:=Nat
def tw7068254170315902101:=Nat
def tw4752658471593909679:=Nat
def tw16689496511852815590:=Nat
def tw8993043051178705185:=Nat
def tw6961840323094426553:=Nat
def tw1885107422283460019:=Nat
def tw17326286894477940741:=Nat
def tw10162124848329433312:=Nat
def tw3759519326818766320:=Nat
def tw16158842648346086797:=Nat
def tw8553358723903581544:=Nat
def tw14008747371071121757:=Nat
def tw12038581634830869136:=Nat
def tw8733738369179814427:=Nat
def tw13722567385604109322:=Nat
def tw13346913337134404015:=Nat
def tw10733290025302285674:=Nat
def tw7957439751946077431:=Nat
def tw3426268172128006862:=Nat
def tw173087717960159839:=Nat
def tw16277744328915478040:=Nat
def tw807447826024744694:=Nat
def tw15511312010252424110:=Nat
def tw17523386041736473262:=Nat
def tw13682049925028680196:=Nat
def tw13274819105386303977:=Nat
def tw7678036267914537948:=Nat
def tw14811308450099546082:=Nat
def tw9095791231216917103:=Nat
def tw7811416273939189384:=Nat
def tw4688903376819351379:=Nat
def tw3693299268124946947:=Nat
def tw10297356923243146682:=Nat
def tw7814417961278116784:=Nat
def tw3201293785752199010:=Nat
def tw1550692704267131380:=Nat
def tw11336045140884209697:=Nat
def tw5536880898995904017:=Nat
def tw5212939234413196218:=Nat
def tw3686207711796459428:=Nat
def tw3823176348187562635:=Nat
def tw18417179751262914653:=Nat
def tw1607094803086934728:=Nat
def tw14127832904731729038:=Nat
def tw18296417745140830351:=Nat
def tw10907095452734469608:=Nat
def tw10627325089841420312:=Nat
def tw9402548120858096762:=Nat
def tw9144854793922204505:=Nat
def tw3235085801337811721:=Nat
def tw16228151259618968609:=Nat
def tw12991050849268870895:=Nat
def tw12623819542133535665:=Nat
def tw282536612421515642:=Nat
def tw17325251393145140551:=Nat
def tw14050616464824928508:=Nat
def tw2636188146385648793:=Nat
def tw14992060974480706717:=Nat
def tw14835570692359787437:=Nat
def tw1733113132463742845:=Nat
def tw9768978002893216656:=Nat
def tw9182568896855308561:=Nat
def tw7504008759553485622:=Nat
def tw7920600219855407133:=Nat
def tw11412842305718252527:=Nat
def tw17121607133116529824:=Nat
def tw16351271766509753930:=Nat
def tw7924175879376188285:=Nat
def tw7200441887051856546:=Nat
def tw6496283065105195785:=Nat
def tw4237747363869547075:=Nat
def tw4163767153123046087:=Nat
def tw7854043259688907113:=Nat
def tw892483036625774493:=Nat
def tw1311022673932101527:=Nat
def tw9668641352421286424:=Nat
def tw2497521220290229368:=Nat
def tw9999369056066540344:=Nat
def tw6786179016353731302:=Nat
def tw16785814284982402960:=Nat
def tw4296692509275203609:=Nat
def tw10804378393584329208:=Nat
def tw2369037411258234361:=Nat
def tw16893972242547265566:=Nat
def tw7501738095645058928:=Nat
def tw17900234243287734082:=Nat
def tw873922219126660164:=Nat
def tw10877963833065407075:=Nat
def tw7553112847998174513:=Nat
def tw6448502552196090192:=Nat
def tw10869391676053575514:=Nat
def tw8240931293740357042:=Nat
def tw6625401279683494890:=Nat
def tw13900349981069231218:=Nat
def tw18145746227692383419:=Nat
def tw1703169629684235382:=Nat
def tw12479998903531202575:=Nat
def tw3296726328138920301:=Nat
def tw6203955702317833970:=Nat
def tw1340852687036119133:=Nat
def tw7025168336469098342:=Nat
def tw14577268014156520062:=Nat
def tw1382084437587412519:=Nat
def tw13800028107985737769:=Nat
def tw11679439894461676682:=Nat
def tw3852328104207635995:=Nat
def tw6741987393746365777:=Nat
def tw6756213677154282705:=Nat
def tw17291859155327496992:=Nat
def tw12582270521911673718:=Nat
def tw5423551453062412594:=Nat
def tw3146042051162802867:=Nat
def tw12857654052465026898:=Nat
def tw1334301149453591510:=Nat
def tw15127457363218127966:=Nat
def tw9237492214002514145:=Nat
def tw8272247466409033955:=Nat
def tw5316367247267643363:=Nat
def tw3257217007749115406:=Nat
def tw2428327177589086699:=Nat
def tw1629977980970008041:=Nat
def tw14070593975696076525:=Nat
def tw8543606953594769373:=Nat
def tw18388701591520259116:=Nat
def tw15772809037498938968:=Nat
def tw11348651351720783419:=Nat
def tw818718293792247139:=Nat
def tw7330149972784518422:=Nat
def tw6920491260918556233:=Nat
def tw3966705806114943881:=Nat
def tw3297055150426811366:=Nat
def tw1601075082502348306:=Nat
def tw13261094410272651040:=Nat
def tw12181303221821634743:=Nat
def tw11205318296600937030:=Nat
def tw1772549935560697988:=Nat
def tw12878456887253753448:=Nat
def tw5319873751438242463:=Nat
def tw11518946370086581974:=Nat
def tw11126597970482506077:=Nat
def tw8228863936614666315:=Nat
def tw6903538900517006462:=Nat
def tw224341068871813886:=Nat
def tw16434173893393519770:=Nat
def tw13282754149750220172:=Nat
def tw12697699875559634809:=Nat
def tw9998485736352487379:=Nat
def tw3921114935747039102:=Nat
def tw2084574738563117274:=Nat
def tw8480159281474869584:=Nat
def tw9449357805972328698:=Nat
def tw16857684162522689444:=Nat
def tw2160881915415929276:=Nat
def tw7119104377399806193:=Nat
def tw6036286716078332346:=Nat
def tw5822787826673091932:=Nat
def tw321058981366376114:=Nat
def tw2723249165065940605:=Nat
def tw2131682977174595756:=Nat
def tw17583957380259869460:=Nat
def tw16052390176895833913:=Nat
def tw15158916849275769287:=Nat
def tw12244435252716153325:=Nat
def tw1121640896707497716:=Nat
def tw11133048794252931621:=Nat
def tw10133461361286794752:=Nat
def tw903034094533871658:=Nat
def tw5356564175782617884:=Nat
def tw3312394557067418232:=Nat
def tw18306982575613453376:=Nat
def tw11282020018853937446:=Nat
def tw16464164111175815598:=Nat
def tw7435990318454114959:=Nat
def tw4893820629077769896:=Nat
def tw4762306120545502612:=Nat
def tw3626431593257094231:=Nat
def tw2207717036412305929:=Nat
def tw17171197048845935040:=Nat
def tw16360656530204634825:=Nat
def tw16031113068834365974:=Nat
def tw15975198591264959466:=Nat
def tw15435430838537531734:=Nat
def tw13622402149960697813:=Nat
def tw12753516699007499000:=Nat
def tw10425096350048714651:=Nat
def tw2679416248522448652:=Nat
def tw8888584861652912420:=Nat
def tw7559801924054718214:=Nat
def tw5176350063592495464:=Nat
def tw3936891896336295229:=Nat
def tw18425425138004248435:=Nat
def tw17209555618927544426:=Nat
def tw15617994183138699362:=Nat
def tw14657955562027653865:=Nat
def tw14455028982220574223:=Nat
def tw1380527378457600325:=Nat
def tw11645100042068565773:=Nat
def tw10539343568576404323:=Nat
def tw10368600004290590826:=Nat
def tw5637437014902118746:=Nat
def tw9153091024900938610:=Nat
def tw8811462152689435543:=Nat
def tw850393724945050472:=Nat
def tw7483729329125760887:=Nat
def tw5284255284816895403:=Nat
def tw3347516974595598627:=Nat
def tw2558144815826110409:=Nat
def tw11905835902264636647:=Nat
def tw11426189176579688250:=Nat
def tw9499090737335481977:=Nat
def tw8130928722318395069:=Nat
def tw5715063011344592365:=Nat
def tw3374972766847485212:=Nat
def tw2144895175178307175:=Nat
def tw17338018415101352766:=Nat
def tw15835431666403721665:=Nat
def tw15372372238623713718:=Nat
def tw14641803309524651588:=Nat
def tw13974144273430170818:=Nat
def tw13841371394423916853:=Nat
def tw12309243307160945544:=Nat
def tw10495103095887560362:=Nat
def tw9906552118461727305:=Nat
def tw9615997285394039747:=Nat
def tw9531691940708509939:=Nat
def tw93047306516733882:=Nat
def tw9278169395579553063:=Nat
def tw9248862169819122404:=Nat
def tw9102728846010310236:=Nat
def tw906498483476835881:=Nat
def tw9035313647979297658:=Nat
def tw9027592965367013578:=Nat
def tw8950611675440002462:=Nat
def tw8930559683487291679:=Nat
def tw8922106731410567299:=Nat
def tw8899569344485217545:=Nat
def tw8885286944160611393:=Nat
def tw8834937385914134021:=Nat
def tw8692259879984580366:=Nat
def tw8522919586410673320:=Nat
def tw8259157156812305114:=Nat
def tw7994925430357972183:=Nat
def tw7977915829936058022:=Nat
def tw7886798798640139296:=Nat
def tw7697623335754377438:=Nat
def tw7695914409856689573:=Nat
def tw7666718378524042838:=Nat
def tw7543292799000772814:=Nat
def tw7393702310200121978:=Nat
def tw7325698912084063011:=Nat
def tw7293946388566442364:=Nat
def tw7293023557566256890:=Nat
def tw7281835634545824102:=Nat
def tw7271334740891887139:=Nat
def tw7250802604384396509:=Nat
def tw7215636253581847693:=Nat
def tw7164848305157845385:=Nat
def tw713411717618269455:=Nat
def tw6905569261297795041:=Nat
def tw6905469980613691106:=Nat
def tw6808391882330279540:=Nat
def tw6782895082223729739:=Nat
def tw6752855198622549006:=Nat
def tw6653736065058731521:=Nat
def tw6631252248657447270:=Nat
def tw6592939162908340838:=Nat
def tw6484828683644249319:=Nat
def tw6474124220609166975:=Nat
def tw6427061325933869365:=Nat
def tw6378537711498194590:=Nat
def tw6364392296174233350:=Nat
def tw6357661145939756572:=Nat
def tw6348614824195397744:=Nat
def tw6318853936315649472:=Nat
def tw6007586231203958103:=Nat
def tw5896552766835076787:=Nat
def tw5579514758758291737:=Nat
def tw5569569167165835162:=Nat
def tw5556058034541889835:=Nat
def tw5516787455732295848:=Nat
def tw5512481250098979492:=Nat
def tw5497097963282758915:=Nat
def tw5453275874011258393:=Nat
def tw5369697631843220318:=Nat
def tw5368332069511164111:=Nat
def tw5292570111193115349:=Nat
def tw5269212427120129421:=Nat
def tw4998997107863635879:=Nat
def tw4972223043345767557:=Nat
def tw4896272040638105430:=Nat
def tw485849437616344335:=Nat
def tw4632114738608994025:=Nat
def tw458248020131648690:=Nat
def tw4523422511906647902:=Nat
def tw4508264436141449978:=Nat
def tw4444150368728056178:=Nat
def tw4418866905309250644:=Nat
def tw4263537182388622306:=Nat
def tw4256696043469951902:=Nat
def tw4086338159055313920:=Nat
def tw4012490873081989853:=Nat
def tw400281136941579467:=Nat
def tw3731430627523037418:=Nat
def tw3634515630703755561:=Nat
def tw3597994541455054392:=Nat
def tw3581687078587525831:=Nat
def tw3505123988837753487:=Nat
def tw3460055737296643810:=Nat
def tw3357156306855270135:=Nat
def tw3314855882470806882:=Nat
def tw3089481577756743830:=Nat
def tw2996113193275165483:=Nat
def tw2969895455137509235:=Nat
def tw2965922390705287176:=Nat
def tw2871279439616523604:=Nat
def tw2834336377412203847:=Nat
def tw2808814510307349897:=Nat
def tw2793720772289254397:=Nat
def tw2720930372283909376:=Nat
def tw2644867237579736304:=Nat
def tw2634976889550159689:=Nat
def tw2456364729251260988:=Nat
def tw2430960161330386132:=Nat
def tw2181711112251105458:=Nat
def tw2091784745413399616:=Nat
def tw18336757920542769932:=Nat
def tw18271006693576148941:=Nat
def tw18239664456511425453:=Nat
def tw1816944312750728388:=Nat
def tw1810964907131164785:=Nat
def tw18050254460891065983:=Nat
def tw17893308186684777588:=Nat
def tw17703559193805719519:=Nat
def tw17683761899402711525:=Nat
def tw17529557871319517556:=Nat
def tw17312709976762213320:=Nat
def tw17301264984680009604:=Nat
def tw17287272561856426462:=Nat
def tw1722125496883713180:=Nat
def tw17217262175884159537:=Nat
def tw17216969917947516159:=Nat
def tw17143162891950341468:=Nat
def tw1710611490353945113:=Nat
def tw17025453117889574345:=Nat
def tw17004015891122615200:=Nat
def tw16939385459547756779:=Nat
def tw1686413040804689627:=Nat
def tw1676158381272545727:=Nat
def tw1650896118054470258:=Nat
def tw16470343907100697273:=Nat
def tw16451448010067072872:=Nat
def tw16376153507392622747:=Nat
def tw16362003543112906758:=Nat
def tw16338564422748412035:=Nat
def tw16312748276052619959:=Nat
def tw16307044247813988616:=Nat
def tw16255176975344153706:=Nat
def tw16062216582427329172:=Nat
def tw16054348036397646427:=Nat
def tw15903708863110260049:=Nat
def tw15817856981568263528:=Nat
def tw15747478983247409328:=Nat
def tw1567975933583235722:=Nat
def tw15664951760397881447:=Nat
def tw15654127932188369690:=Nat
def tw15644399892584570227:=Nat
def tw15595229989611657622:=Nat
def tw15558399513983284314:=Nat
def tw15551000455550216269:=Nat
def tw15496815414964607338:=Nat
def tw15429488914557752976:=Nat
def tw15380643276661029892:=Nat
def tw15372752155351902811:=Nat
def tw15346730548937206612:=Nat
def tw15260119653742626381:=Nat
def tw15223934530166469565:=Nat
def tw15137042078190188465:=Nat
def tw15077933558231138607:=Nat
def tw15076708809188115075:=Nat
def tw14997833502762121762:=Nat
def tw14808724580488307192:=Nat
def tw14680763400362186012:=Nat
def tw14594883774489661300:=Nat
def tw1456774752419196891:=Nat
def tw14189135541704217453:=Nat
def tw14122342284985316198:=Nat
def tw14061937767133770695:=Nat
def tw14054248183074812441:=Nat
def tw13913970892716237246:=Nat
def tw13832080611845333738:=Nat
def tw1375477896725628751:=Nat
def tw13702036593516687783:=Nat
def tw1349875276614476757:=Nat
def tw13473230632515087093:=Nat
def tw13294831940463863844:=Nat
def tw13191581676308785647:=Nat
def tw13120470024938846337:=Nat
def tw13083631654408623671:=Nat
def tw12856919290701724743:=Nat
def tw12609011006083127927:=Nat
def tw12593394389577451704:=Nat
def tw12344387719982824158:=Nat
def tw11880395602760894805:=Nat
def tw11817280792962307599:=Nat
def tw11622885088762871136:=Nat
def tw11536678021386244110:=Nat
def tw11496736829262378881:=Nat
def tw11449212402891461511:=Nat
def tw11373984468634661345:=Nat
def tw11315703808894402252:=Nat
def tw11272834719845653205:=Nat
def tw11208044858529222124:=Nat
def tw111333445498489056:=Nat
def tw11053693197392042824:=Nat
def tw11013390645863140975:=Nat
def tw11004889793821178945:=Nat
def tw10969119325916563047:=Nat
def tw10873269068572562057:=Nat
def tw10767861344974724483:=Nat
def tw10425925302228636698:=Nat
def tw10366900239844020566:=Nat
def tw10094686098475452756:=Nat
end PySem.W.Fast
theorem Z{α:Sort _}{a:α}:a=a:=rfl
theorem O{p:Prop}(h:p:=by lia):p:=h
theorem S{p:Prop}(h:p:=by decide +kernel):p:=h
theorem J{p:Prop}(h:p:=by decide):p:=h
theorem B{p:Prop}(h:p:=by simp):p:=h
theorem XT{p:Prop}(h:p:=by omega):p:=h
theorem XR{p:Prop}(h:p:=by grind):p:=h
theorem XS{p:Prop}(h:p:=by rfl):p:=h
theorem XQ{p:Prop}(h:p:=by kernel_rfl):p:=h
noncomputable def Yy0:=@List.getElem?_eq_getElem
noncomputable def Yy1:=@PySem.wpAny_bind
noncomputable def Yy2:=@List.mem_singleton
noncomputable def Yy3:=@List.length_append
noncomputable def Yy4:=@List.getElem?_eq_some_iff
noncomputable def Yy5:=@PySem.Heap.get?_push_of_some
noncomputable def Yy6:=@Nat.le_refl
noncomputable def Yy7:=@List.getD_eq_getElem?_getD
noncomputable def Yy8:=@List.mem_of_getElem?
noncomputable def Yy9:=@List.length_map
noncomputable def Ya:=@List.size_toArray
noncomputable def Yb:=@List.mem_cons_self
noncomputable def Yc:=@List.mem_cons_of_mem
noncomputable def Yd:=@List.mem_append_right
noncomputable def Ye:=@List.mem_cons
noncomputable def Yf:=@Nat.lt_of_lt_of_le
noncomputable def Yg:=@List.getElem?_map
noncomputable def Yh:=@PySem.wpAny_pure
noncomputable def Yi:=@PySem.Heap.lt_size
noncomputable def Yj:=@List.mem_append
noncomputable def Yk:=@PySem.Heap.get?_push_size
noncomputable def Yl:=@Option.some.inj
noncomputable def Ym:=@Nat.ne_of_lt
noncomputable def Yn:=@List.getElem?_append_right
noncomputable def Yo:=@Bool.false_ne_true
noncomputable def Yp:=@List.length_take
noncomputable def Yq:=@List.length_cons
noncomputable def Yr:=@Nat.zero_le
noncomputable def Ys:=@List.getElem?_append_left
noncomputable def Yt:=@List.mem_map
noncomputable def Yu:=@List.mem_append_left
noncomputable def Yv:=@Nat.le_trans
noncomputable def Yw:=@List.length_singleton
noncomputable def Yx:=@List.length_replicate
noncomputable def Yy:=@List.mem_filter
noncomputable def Yz:=@List.map_append
noncomputable def YA:=@Int.toNat_natCast
noncomputable def YB:=@List.cons.inj
noncomputable def YC:=@List.take_length
noncomputable def YD:=@List.take_succ
noncomputable def YE:=@List.mem_range
noncomputable def YF:=@Array.getElem?_eq_getElem
noncomputable def YG:=@decide_eq_true
noncomputable def YH:=@List.length_eq_zero_iff
noncomputable def YI:=@Array.length_toList
noncomputable def YJ:=@PySem.W.mg_none_of
noncomputable def YK:=@List.length_range
noncomputable def YL:=@List.take_of_length_le
noncomputable def YM:=@PySem.PassesOwn.never
noncomputable def YN:=@List.map_congr_left
noncomputable def YO:=@of_decide_eq_true
noncomputable def QP:=@List.map_cons
noncomputable def YQ:=@List.getElem?_eq_none
noncomputable def YR:=@decide_eq_false
noncomputable def YS:=@Classical.byContradiction
noncomputable def YT:=@decide_eq_true_iff
noncomputable def YU:=@Ne.symm
noncomputable def YV:=@PySem.Obj.data_mapFields
noncomputable def YW:=@Int.emod_nonneg
noncomputable def YX:=@congrArg
noncomputable def YY:=@PySem.F.plainAttrs_list
noncomputable def YZ:=@Int.emod_lt_of_pos
noncomputable def Yy00:=@Nat.not_lt_zero
noncomputable def Yy01:=@Array.getElem?_toList
noncomputable def Yy02:=@PySem.Heap.get?_update_self
noncomputable def Yy03:=@List.all_eq_true
noncomputable def Yy04:=@List.append_nil
noncomputable def Yy05:=@PySem.F.type_list_append
noncomputable def Yy06:=@PySem.F.slot_list_append
noncomputable def Yy07:=@PySem.wpAny_mono
noncomputable def Yy08:=@PyProof.Rows.callWith_type1
noncomputable def Yy09:=@PySem.Heap.SameBut.update
noncomputable def Y0a:=@PySem.wpAny_callSpecial?_slot
noncomputable def Y0b:=@PySem.F.plainAttrs_str
noncomputable def Y0c:=@PySem.wpAny_newObj_type
noncomputable def Y0d:=@Nat.lt_succ_self
noncomputable def Y0e:=@List.length_zipWith
noncomputable def Y0f:=@List.getElem?_zipWith
noncomputable def Y0g:=@Int.mul_assoc
noncomputable def Y0h:=@PySem.wpAny_call_entry
noncomputable def Y0i:=@List.length_set
noncomputable def Y0j:=@PySem.W.mg_of
noncomputable def Y0k:=@List.length_drop
noncomputable def Y0l:=@List.getElem?_set
noncomputable def Y0m:=@Int.mul_zero
noncomputable def Y0n:=@PySem.Heap.size_push
noncomputable def Y0o:=@PySem.wpAny_field
noncomputable def Y0p:=@Nat.lt_irrefl
noncomputable def Y0q:=@List.range_succ
noncomputable def Y0r:=@List.nodup_cons
noncomputable def Y0s:=@List.pairwise_cons
noncomputable def Y0t:=@Int.one_mul
noncomputable def Y0u:=@List.pairwise_append
noncomputable def Y0v:=@List.getElem?_of_mem
noncomputable def Y0w:=@List.filter_cons
noncomputable def Y0x:=@Int.add_zero
noncomputable def Y0y:=@PySem.wpAny_Call_Name_kw
noncomputable def Y0z:=@Array.getD_eq_getD_getElem?
noncomputable def Y0A:=@List.append_assoc
noncomputable def Y0B:=@Int.le_refl
noncomputable def Y0C:=@beq_eq_false_iff_ne
noncomputable def Y0D:=@PySem.F.slot_str_split
noncomputable def Y0E:=@List.sum_cons
noncomputable def Y0F:=@List.replicate_succ
noncomputable def Y0G:=@List.getElem?_range
noncomputable def Y0H:=@List.drop_eq_nil_of_le
noncomputable def Y0I:=@Bool.eq_iff_iff
noncomputable def Y0J:=@PySem.wpAny_truthy_bool
noncomputable def Y0K:=@PySem.wpAny_setField
noncomputable def Y0L:=@PySem.wpAny_seqItems
noncomputable def Y0M:=@List.pairwise_iff_getElem
noncomputable def Y0N:=@List.lookup_cons
noncomputable def Y0O:=@PySem.Heap.get?_update_other
noncomputable def Y0P:=@Bool.and_eq_true
noncomputable def Y0Q:=@PySem.codeAny_builtin
noncomputable def Y0R:=@Nat.sub_self
noncomputable def Y0S:=@Nat.ne_of_gt
noncomputable def Y0T:=@Int.mul_comm
noncomputable def Y0U:=@PySem.Obj.isFreed_of_fields
noncomputable def Y0V:=@List.ext_getElem?
noncomputable def Y0W:=@Nat.le_succ
noncomputable def Y0X:=@List.getElem?_replicate
noncomputable def Y0Y:=@PySem.mem_of_lookup
noncomputable def Y0Z:=@List.getElem_mem
noncomputable def Yy10:=@List.any_eq_true
noncomputable def Yy11:=@Nat.mul_le_mul
noncomputable def Yy12:=@List.filter_append
noncomputable def Yy13:=@Array.getElem?_eq_some_iff
noncomputable def Yy14:=@Nat.lt_succ_of_lt
noncomputable def Yy15:=@List.nodup_append
noncomputable def Yy16:=@Bool.eq_false_iff
noncomputable def Yy17:=@PySem.wpAny_setField_rec
noncomputable def Yy18:=@PySem.W.hideAll_none
noncomputable def Yy19:=@List.mem_of_mem_take
noncomputable def Y1a:=@List.mem_of_getLast?
noncomputable def Y1b:=@PySem.wpAny_passesOwn
noncomputable def Y1c:=@decide_eq_decide
noncomputable def Y1d:=@beq_iff_eq
noncomputable def Y1e:=@List.getElem_of_mem
noncomputable def Y1f:=@List.filterMap_cons
noncomputable def Y1g:=@List.eq_of_mem_replicate
noncomputable def Y1h:=@List.cons_append
noncomputable def Y1i:=@PySem.F.slot_tuple_iterator_next
noncomputable def Y1j:=@PySem.wpAny_setState_of
noncomputable def Y1k:=@PySem.wpAny_holding
noncomputable def Y1l:=@List.pairwise_singleton
noncomputable def Y1m:=@Nat.le_of_lt
noncomputable def Y1n:=@List.mem_filterMap
noncomputable def Y1o:=@List.map_singleton
noncomputable def Y1p:=@Int.mul_one
noncomputable def Y1q:=@PySem.wpAny_setEntries_of
noncomputable def Y1r:=@PySem.wpAny_askSetting
noncomputable def Y1s:=@Option.map_eq_some_iff
noncomputable def Y1t:=@List.pairwise_lt_range
noncomputable def Y1u:=@List.getElem?_set_self
noncomputable def Y1v:=@Array.getElem?_eq_none
noncomputable def Y1w:=@List.foldl_append
noncomputable def Y1x:=@List.flatten_cons
noncomputable def Y1y:=@PySem.F.type_str_join
noncomputable def Y1z:=@PySem.F.slot_str_join
noncomputable def Y1A:=@PySem.wpAny_of_eq
noncomputable def Y1B:=@PySem.codeAny_mono
noncomputable def Y1C:=@PySem.F.called_set
noncomputable def Y1D:=@Nat.succ.inj
noncomputable def Y1E:=@Nat.le_of_not_lt
noncomputable def Y1F:=@List.getElem?_set_ne
noncomputable def Y1G:=@Int.pow_zero
noncomputable def Y1H:=@PySem.wpAny_pyIter_list
noncomputable def Y1I:=@PySem.builtinLookup_eq_fast
noncomputable def Y1J:=@List.filter_eq_self
noncomputable def Y1K:=@Array.toList_append
noncomputable def Y1L:=@List.nil_append
noncomputable def Y1M:=@List.length_nil
noncomputable def Y1N:=@PySem.sizeLine_eq
noncomputable def Y1O:=@PySem.wpAny_pyIter_zip
noncomputable def Y1P:=@PySem.W.callWith_K
noncomputable def Y1Q:=@Int.mul_add
noncomputable def Y1R:=@PySem.F.args_tuple_add_2
noncomputable def Y1S:=@PySem.F.args_str_split_2
noncomputable def Y1T:=@Option.isSome_iff_exists
noncomputable def Y1U:=@Nat.zero_add
noncomputable def Y1V:=@Int.zero_add
noncomputable def Y1W:=@Int.le_trans
noncomputable def Y1X:=@PySem.wpAny_attempt
noncomputable def Y1Y:=@Int.mul_left_comm
noncomputable def Y1Z:=@PySem.wpAny_execs_nil
noncomputable def Yy20:=@PySem.F.entry_tuple_add
noncomputable def Yy21:=@PySem.F.entry_str_split
noncomputable def Yy22:=@PySem.Calls.Name_function_global
noncomputable def Yy23:=@PySem.call_meets
noncomputable def Yy24:=@PySem.W.funFrames_hide
noncomputable def Yy25:=@PySem.F.type_str_split
noncomputable def Yy26:=@PySem.F.slot_tuple_add
noncomputable def Yy27:=@List.length_tail
noncomputable def Yy28:=@List.length_eq_one_iff
noncomputable def Yy29:=@List.getElem?_eraseIdx
noncomputable def Y2a:=@List.any_cons
noncomputable def Y2b:=@PySem.Code.quiet_builtin
noncomputable def Y2c:=@PySem.PassesOwn.leaving
noncomputable def Y2d:=@PySem.Obj.cls_mapFields
noncomputable def Y2e:=@List.foldl_cons
noncomputable def Y2f:=@List.find?_cons
noncomputable def Y2g:=@Nat.pow_le_pow_right
noncomputable def Y2h:=@List.mem_iff_getElem
noncomputable def Y2i:=@List.map_map
noncomputable def Y2j:=@List.length_eraseIdx
noncomputable def Y2k:=@Int.zero_mul
noncomputable def Y2l:=@Int.pow_succ
noncomputable def Y2m:=@PySem.wpAny_isInstance
noncomputable def Y2n:=@PySem.W.plainGet_of
noncomputable def Y2o:=@PySem.NumText.digitsVal_snoc
noncomputable def Y2p:=@Nat.mul_le_mul_left
noncomputable def Y2q:=@Nat.add_le_add
noncomputable def Y2r:=@Nat.lt_of_le_of_lt
noncomputable def Y2s:=@Nat.add_sub_cancel
noncomputable def Y2t:=@List.getElem?_take
noncomputable def Y2u:=@List.getElem?_drop
noncomputable def Y2v:=@PySem.typeLookup_type
noncomputable def Y2w:=@PySem.F.slot_zip_next
noncomputable def Y2x:=@PySem.wpAny_updateSeq_pair
noncomputable def Y2y:=@PySem.codeAny_call_builtin
noncomputable def Y2z:=@PyProof.Rows.callWith_builtin1
noncomputable def Y2A:=@List.pairwise_map
noncomputable def Y2B:=@PySem.Around.under_plainId
noncomputable def Y2C:=@List.take_append_of_le_length
noncomputable def Y2D:=@PyProof.Rows.F.plain_set_update_loop
noncomputable def Y2E:=@PySem.wpAny_rule
noncomputable def Y2F:=@PySem.wpAny_fieldsOf
noncomputable def Y2G:=@PySem.typeIs_str
noncomputable def Y2H:=@PySem.Str.cps_append
noncomputable def Y2I:=@PySem.F.slot_dict_setdefault
noncomputable def Y2J:=@Nat.sub_zero
noncomputable def Y2K:=@Nat.not_lt
noncomputable def Y2L:=@Nat.mul_comm
noncomputable def Y2M:=@Nat.le_add_right
noncomputable def Y2N:=@List.not_mem_nil
noncomputable def Y2O:=@List.dropLast_concat_getLast
noncomputable def Y2P:=@Int.sub_zero
noncomputable def Y2Q:=@Int.min_eq_right
noncomputable def Y2R:=@Int.lt_trans
noncomputable def Y2S:=@Int.le_of_lt
noncomputable def Y2T:=@Array.all_toList
noncomputable def Y2U:=@PyProof.Rows.firstMet_succ
noncomputable def Y2V:=@PySem.wpAny_throw
noncomputable def Y2W:=@PySem.wpAny_pyIter_tuple
noncomputable def Y2X:=@PySem.SeqAt.EqAt.of_refs
noncomputable def Y2Y:=@PySem.F.excBase_ValueError
noncomputable def Y2Z:=@Option.map_some
noncomputable def Yy30:=@List.perm_ext_iff_of_nodup
noncomputable def Yy31:=@List.of_mem_zip
noncomputable def Yy32:=@List.length_eraseIdx_of_lt
noncomputable def Yy33:=@List.forIn_cons
noncomputable def Yy34:=@Int.min_eq_left
noncomputable def Yy35:=@PySem.wpAny_standAt
noncomputable def Yy36:=@PySem.wpAny_onRaise
noncomputable def Yy37:=@List.getElem?_eq_none_iff
noncomputable def Yy38:=@Int.neg_mul
noncomputable def Yy39:=@Int.eq_of_mul_eq_mul_left
noncomputable def Y3a:=@Int.add_mul
noncomputable def Y3b:=@PySem.F.slot_dict_values
noncomputable def Y3c:=@List.mem_of_mem_eraseIdx
noncomputable def Y3d:=@List.length_erase_of_mem
noncomputable def Y3e:=@List.getElem?_take_of_lt
noncomputable def Y3f:=@Int.natAbs_mul
noncomputable def Y3g:=@PySem.F.plainAttrs_dict
noncomputable def Y3h:=@PySem.F.attr_ValueError
noncomputable def Y3i:=@List.filter_cons_of_pos
noncomputable def Y3j:=@List.filter_cons_of_neg
noncomputable def Y3k:=@PySem.noFill_tuple_add
noncomputable def Y3l:=@if_true
noncomputable def Y3m:=@PySem.concat_meets
noncomputable def Y3n:=@PySem.W.cellsFrom_some
noncomputable def Y3o:=@List.length_pos_of_mem
noncomputable def Y3p:=@Int.not_lt
noncomputable def Y3q:=@PySem.F.args_tuple_iterator_next_1
noncomputable def Y3r:=@PySem.W.methodCall_KW
noncomputable def Y3s:=@List.length_filter_le
noncomputable def Y3t:=@List.getElem?_toArray
noncomputable def Y3u:=@List.eq_nil_or_concat
noncomputable def Y3v:=@List.concat_eq_append
noncomputable def Y3w:=@List.Pairwise.sublist
noncomputable def Y3x:=@PySem.F.entry_tuple_iterator_next
noncomputable def Y3y:=@Bool.beq_eq_decide_eq
/-! THE HAND LAYER,for ints,bools,texts,own classes,LISTS and tuples (index,slices,in,append,pop ..),calls,loops. Paste it whole ahead of your own text;what your proof does not reach may be deleted. -/
namespace L2
open PySem PySem.Spec PyProof.Rows
noncomputable abbrev Key:=Sum Int Str
noncomputable def ZE10:Key->Value->Bool
 | .inl k,v=>Value.isInt k v
 | .inr x,v=>Value.isStrOf x v
noncomputable def keyH(w:World):Key->Int
 | .inl k=>hashInt k
 | .inr x=>hashStr w x
theorem ZH:∀{k:Key}{v:Value},ZE10 k v=true->(∃i t,k=Sum.inl i/\v=Value.int i t)\/(∃x t,k=Sum.inr x/\v=Value.str x t)
 | .inl i,v,h=>by obtain⟨t,e⟩:=Value.isInt_shape (k:=i) (v:=v) h;exact .inl ⟨i,t,Z,e⟩
 | .inr x,v,h=>by obtain⟨t,e⟩:=Value.isStrOf_shape (x:=x) (v:=v) h;exact .inr ⟨x,t,Z,e⟩
theorem ZB7(i:Int)(t:Tok):ZE10 (.inl i) (.int i t)=true:=by simp[ZE10,Value.isInt]
theorem ZA7(x:Str)(t:Tok):ZE10 (.inr x) (.str x t)=true:=by simp[ZE10,Value.isStrOf]
theorem Zs13(a b:Int):decide ((Sum.inl a:Key)=Sum.inl b)=(a == b):=by
 by_cases e:a=b
 ·subst e;simp
 ·have h:¬(Sum.inl a:Key)=Sum.inl b:=λq=>e (Sum.inl.inj q);rw[YR h];exact(Y0C.mpr e).symm
theorem Zp13(a b:Str):decide ((Sum.inr a:Key)=Sum.inr b)=decide (a=b):=by
 by_cases e:a=b
 ·subst e;simp
 ·have h:¬(Sum.inr a:Key)=Sum.inr b:=λq=>e (Sum.inr.inj q);rw[YR h,YR e]
theorem Zr13(a:Int)(b:Str):decide ((Sum.inl a:Key)=Sum.inr b)=false:=YR (λq=>nomatch q)
theorem Zq13(a:Str)(b:Int):decide ((Sum.inr a:Key)=Sum.inl b)=false:=YR (λq=>nomatch q)
noncomputable def Zh1(prog:Program)(w:World):PySem.KeyKind prog w Key where
 is:=ZE10
 hash:=keyH w
 inj:=λv a b ha hb=>by
  rcases ZH ha with ⟨i,t,rfl,rfl⟩|⟨x,t,rfl,rfl⟩
  ·rcases ZH hb with ⟨j,u,rfl,e⟩|⟨y,u,rfl,e⟩
   ·injection e with e1 _;rw[e1]
   ·exact nomatch e
  ·rcases ZH hb with ⟨j,u,rfl,e⟩|⟨y,u,rfl,e⟩
   ·exact nomatch e
   ·injection e with e1 _;rw[e1]
 byValue:=λk v h=>by rcases ZH h with ⟨i,t,rfl,rfl⟩|⟨x,t,rfl,rfl⟩<;>rfl
 pyHash:=λhv h=>by
  rcases ZH hv with ⟨i,t,rfl,rfl⟩|⟨x,t,rfl,rfl⟩
  ·exact wpAny_pyHash_int h
  ·exact wpAny_pyHash_str h
 eqBool:=λhu hv h=>by
  rcases ZH hu with ⟨i,t,rfl,rfl⟩|⟨x,t,rfl,rfl⟩
  ·rcases ZH hv with ⟨j,u,rfl,rfl⟩|⟨y,u,rfl,rfl⟩
   ·rw[Zs13]at h;exact wpAny_eqBool_int h
   ·rw[Zr13]at h;exact SeqAt.EqAt.int_str i t y u _ _ _ _ h
  ·rcases ZH hv with ⟨j,u,rfl,rfl⟩|⟨y,u,rfl,rfl⟩
   ·rw[Zq13]at h;exact SeqAt.EqAt.str_int x t j u _ _ _ _ h
   ·rw[Zp13]at h;exact wpAny_eqBool_str h
 «strs»:=λk x t v h=>by
  rcases ZH h with ⟨i,u,rfl,e⟩|⟨y,u,rfl,e⟩
  ·exact nomatch e
  ·injection e with e1 _;subst e1;cases v<;>rfl
theorem Zf5(prog:Program)(w:World)(i:Int)(t:Tok):(Zh1 prog w).is (.inl i) (.int i t)=true:=ZB7 i t
theorem Ze5(prog:Program)(w:World)(x:Str)(t:Tok):(Zh1 prog w).is (.inr x) (.str x t)=true:=ZA7 x t
inductive V where
 |non|bl (b:Bool)|int (i:Int)|str (x:Str)|byt (b:Array UInt8)|flt (b:UInt64)|ref (a:Addr)|ty (n:String)
 deriving DecidableEq
noncomputable def RelV:V->Value->Prop
 | .non,u=>u=Value.none
 | .bl b,u=>u=Value.bool b
 | .int i,u=>∃t,u=Value.int i t
 | .str x,u=>∃t,u=Value.str x t
 | .byt b,u=>∃t,u=Value.bytes b t
 | .flt b,u=>∃t,u=Value.float b t
 | .ref a,u=>u=Value.ref a
 | .ty n,u=>u=Value.type n
noncomputable abbrev Vals:List V->List Value->Prop:=Paired RelV
theorem Vals.length{xs:List V}{us:List Value}(r:Vals xs us):xs.length=us.length:=Paired.length r
theorem Vals.get{xs:List V}{us:List Value}{i:Nat}{x:V}(h:Vals xs us)(e:xs[i]?=some x):∃u,us[i]?=some u/\RelV x u:=by
 induction h generalizing i with
 |nil=>simp at e
 |cons r t ih=>
  cases i with
  |zero=>simp at e;subst e;exact⟨_,Z,r⟩
  |succ i=>
   obtain⟨u,h1,h2⟩:=ih (i:=i) (by simpa using e);exact⟨u,by simpa using h1,h2⟩
theorem Vals.set(r:RelV x u){xs:List V}{us:List Value}(i:Nat)(h:Vals xs us):Vals (xs.set i x) (us.set i u):=by
 induction h generalizing i with
 |nil=>exact .nil
 |cons q t ih=>
  cases i with
  |zero=>exact .cons r t
  |succ i=>exact .cons q (ih i)
theorem Vals.append{xs ys:List V}{us ws:List Value}(h:Vals xs us)(s:Vals ys ws):Vals (xs++ys) (us++ws):=by
 induction h with
 |nil=>exact s
 |cons r t ih=>exact .cons r ih
theorem Vals.take{xs:List V}{us:List Value}(n:Nat)(h:Vals xs us):Vals (xs.take n) (us.take n):=by
 induction h generalizing n with
 |nil=>cases n<;>exact .nil
 |cons r t ih=>
  cases n with
  |zero=>exact .nil
  |succ n=>exact .cons r (ih n)
theorem Vals.drop{xs:List V}{us:List Value}(n:Nat)(h:Vals xs us):Vals (xs.drop n) (us.drop n):=by
 induction h generalizing n with
 |nil=>cases n<;>exact .nil
 |cons r t ih=>
  cases n with
  |zero=>exact .cons r t
  |succ n=>exact ih n
noncomputable def RelO:Option V->Option Value->Prop
 |some v,some u=>RelV v u
 |none,none=>True
 |_,_=>False
noncomputable def KV{κ:Type}:List (κ×V)->List (κ×Value)->Prop:=Paired λ(p:κ×V) (q:κ×Value)=>p.1=q.1/\RelV p.2 q.2
noncomputable def kV:Key->V
 | .inl i=>.int i
 | .inr x=>.str x
inductive HO where
 |lst (xs:List V)
 |tup (xs:List V)
 |dK (kvs:List (Key×V))|dT (kvs:List (List Key×V))
 |set (XW:Int->Bool) (n:Nat)
 |ins (C dx:Addr) (fs:List (Str×V))
 |own (x:Addr)
 |xd (fs:List (Str×V))
 |met (f x:Addr)
 |rng (lo hi:Int)
 |frz (o:Obj) (u:HO)
 |tbl (ps:Array Value)
 |ext (φ:Heap->Prop)
noncomputable abbrev Hp:=Addr->Option HO
noncomputable def upd(H:Hp)(a:Addr)(o:HO):Hp:=λb=>if b=a then some o else H b
theorem Zz1:upd H a o a=some o:=by unfold upd;rw[if_pos Z]
theorem Zd(h:b≠a):upd H a o b=H b:=by unfold upd;rw[if_neg h]
theorem ZI9{H:Hp}{a b:Addr}{o u:HO}(h:H a=some o)(h':H b=some u)(d:o≠u):a≠b:=by intro e;subst e;rw[h]at h';exact d (Yl h')
theorem Ze{H:Hp}{a b:Addr}{o:HO}(h:H a=some o)(h':H b=none):a≠b:=by intro e;subst e;rw[h]at h';cases h'
section
variable(P:Program)(w:World)
noncomputable def ObjOk(H:Hp)(h:Heap)(a:Addr):HO->Prop
 | .lst xs=>xs.length<=sizeLine/\∃(its:List Value)(n:Nat),Vals xs its/\h.get? a=some {cls:=.type "list",data:=.seq its.toArray n}
 | .tup xs=>xs.length<=sizeLine/\∃its:List Value,Vals xs its/\IsTup h a its.toArray
 | .dK kvs=>kvs.length<=sizeLine/\(a == sysModules)=false/\∃vs,KV kvs vs/\h.DictOf (Zh1 P w) a vs
 | .dT kvs=>kvs.length<=sizeLine/\(a == sysModules)=false/\∃xs:List (List Key×Addr×Value),
   Paired (λ(p:List Key×V) (q:List Key×Addr×Value)=>p.1=q.1/\H q.2.1=some (.tup<|p.1.map kV)/\RelV p.2 q.2.2) kvs xs/\
   ∃o es ep,h.get? a=some o/\o.ExactDict/\o.data=.dict es ep/\es.toList=xs.map (entryOfKey<|tupleKind<|Zh1 P w)/\(xs.map (·.1)).Nodup
 | .set XW n=>h.SetOf (intKind P w) a XW n
 | .ins C dx fs=>H dx=some (.own a)/\fs.length<=1000/\dx≠a/\h.get? a=some (PySem.W.instObj C dx)/\
   ∃mA,h.Ns1 dx mA/\(∀f,RelO (fs.lookup f)<|mA f)/\PySem.Within mA (fs.map (·.1))
 | .own _=>∃o,h.get? a=some o
 | .xd fs=>∃mA,h.Ns1 a mA/\∀f,RelO (fs.lookup f) (mA f)
 | .rng lo hi=>∃t u v,h.get? a=some {cls:=.type "range",data:=.fields #[.int lo t,.int hi u,.int 1 v]}
 | .frz o u=>h.get? a=some o/\ObjOk H h a u
 | .tbl ps=>h.get? a=some {cls:=.none,data:=.fields ps}
 | .met f x=>h.get? a=some (PySem.W.methodObj (.ref f)<|.ref x)
 | .ext φ=>φ h/\(∃o,h.get? a=some o)/\∀h1 h2:Heap,φ h1->(∀o,h1.get? a=some o->h2.get? a=some o)->φ h2
noncomputable def HOk(H:Hp)(h:Heap):Prop:=∀a o,H a=some o->ObjOk P w H h a o
end
section
variable{P:Program}{w:World}{H H':Hp}{h h':Heap}{a:Addr}{o:HO}
theorem ObjOk.lt(x:ObjOk P w H h a o):a<h.objs.size:=by
 cases o with
 |lst xs=>obtain⟨_,_,_,_,e⟩:=x;exact Yi e
 |tup xs=>obtain⟨_,_,_,p⟩:=x;exact p.lt
 |dK kvs=>obtain⟨_,_,_,_,o,_,_,e,_⟩:=x;exact Yi e
 |dT kvs=>obtain⟨_,_,_,_,o,_,_,e,_⟩:=x;exact Yi e
 |set XW n=>obtain⟨o,_,_,_,e,_⟩:=x;exact Yi e
 |ins C dx fs=>obtain⟨_,_,_,e,_⟩:=x;exact Yi e
 |own y=>obtain⟨_,e⟩:=x;exact Yi e
 |xd fs=>obtain⟨_,⟨_,_,_,e,_⟩,_⟩:=x;exact Yi e
 |rng lo hi=>obtain⟨_,_,_,e⟩:=x;exact Yi e
 |frz ob u=>obtain⟨e,_⟩:=x;exact Yi e
 |tbl ps=>exact Yi (show h.get? a=some _ from x)
 |met f y=>exact Yi (show h.get? a=some _ from x)
 |ext φ=>obtain⟨_,⟨_,e⟩,_⟩:=x;exact Yi e
theorem Paired.mapP{α β:Type}{F G:α->β->Prop}{l₁:List α}{l₂:List β}(h:Paired F l₁ l₂)(f:∀a b,F a b->G a b):Paired G l₁ l₂:=by
 induction h with
 |nil=>exact .nil
 |cons r t ih=>exact .cons (f _ _ r) ih
theorem ObjOk.stay(x:ObjOk P w H h a o)(k:∀b u,(b=a\/H b=some (.own a))->h.get? b=some u->h'.get? b=some u)
  (ho:∀b,H b=some (.own a)->H' b=some (.own a))(ht:∀b xs,H b=some (.tup xs)->H' b=some (.tup xs)):ObjOk P w H' h' a o:=by
 induction o with
 |lst xs=>obtain⟨z,its,n,r,e⟩:=x;exact⟨z,its,n,r,k _ _ (.inl Z) e⟩
 |tup xs=>obtain⟨z,its,r,ob,e,c⟩:=x;exact⟨z,its,r,ob,k _ _ (.inl Z) e,c⟩
 |dK kvs=>obtain⟨z,y,vs,r,ob,es,ep,e,c⟩:=x;exact⟨z,y,vs,r,ob,es,ep,k _ _ (.inl Z) e,c⟩
 |dT kvs=>
  obtain⟨z,y,xs,r,ob,es,ep,e,c⟩:=x;exact⟨z,y,xs,Paired.mapP r λp q z=>⟨z.1,ht _ _ z.2.1,z.2.2⟩,ob,es,ep,k _ _ (.inl Z) e,c⟩
 |set XW n=>obtain⟨ob,es,ep,t,e,c⟩:=x;exact⟨ob,es,ep,t,k _ _ (.inl Z) e,c⟩
 |ins C dx fs=>
  obtain⟨d,z,ne,e,mA,⟨od,es,ep,e2,c⟩,r⟩:=x;exact⟨ho _ d,z,ne,k _ _ (.inl Z) e,mA,⟨od,es,ep,k _ _ (.inr d) e2,c⟩,r⟩
 |own y=>obtain⟨ob,e⟩:=x;exact⟨ob,k _ _ (.inl Z) e⟩
 |xd fs=>obtain⟨mA,⟨od,es,ep,e,c⟩,r⟩:=x;exact⟨mA,⟨od,es,ep,k _ _ (.inl Z) e,c⟩,r⟩
 |rng lo hi=>obtain⟨t,u,v,e⟩:=x;exact⟨t,u,v,k _ _ (.inl Z) e⟩
 |frz ob u ih=>obtain⟨e,q⟩:=x;exact⟨k _ _ (.inl Z) e,ih q⟩
 |tbl ps=>
  have e:h.get? a=some {cls:=.none,data:=.fields ps}:=x;show h'.get? a=some {cls:=.none,data:=.fields ps}
  exact k a _ (.inl Z) e
 |met f y=>
  have e:h.get? a=some (PySem.W.methodObj (.ref f)<|.ref y):=x;show h'.get? a=some (PySem.W.methodObj (.ref f)<|.ref y)
  exact k a _ (.inl Z) e
 |ext φ=>obtain⟨p,⟨o,e⟩,st⟩:=x;exact⟨st _ _ p λo q=>k _ _ (.inl Z) q,⟨o,k _ _ (.inl Z) e⟩,st⟩
theorem HOk.lt(x:HOk P w H h)(e:H a=some o):a<h.objs.size:=(x a o e).lt
theorem HOk.fresh(x:HOk P w H h)(e:h.objs.size<=a):H a=none:=by
 cases q:H a with
 |none=>rfl
 |some u=>exact absurd (Yf (x.lt q) e) (Y0p _)
theorem HOk.kept(x:HOk P w H h)(k:∀b u,h.get? b=some u->h'.get? b=some u):HOk P w H h':=λa o e=>
 (x a o e).stay (λb u _ q=>k b u q) (λ_ q=>q) λ_ _ q=>q
theorem HOk.laid(x:HOk P w H h)(k:∀b u,h.get? b=some u->h'.get? b=some u)(hp:h.objs.size<=a)(new:ObjOk P w (upd H a o) h' a o):HOk P w (upd H a o) h':=λb u e=>by
 have hn:=x.fresh hp;by_cases hb:b=a
 ·subst hb;rw[Zz1]at e;cases e;exact new
 ·rw[Zd hb]at e;exact(x b u e).stay (λc v _ q=>k c v q) (λc q=>by rwa[Zd (Ze q hn)]) λc xs q=>by rwa[Zd (Ze q hn)]
end
noncomputable def Rd(H:Hp)(a:Addr)(u:HO):Prop:=H a=some u\/∃o,H a=some (.frz o u)
theorem Rd.ok(r:Rd H a u)(x:HOk P w H h):ObjOk P w H h a u:=by
 rcases r with r|⟨o,r⟩
 ·exact x a u r
 ·obtain⟨_,q⟩:=x a _ r;exact q
noncomputable def Mut:Option HO->Prop
 |some (.lst _)=>True
 |some (.dK _)=>True
 |some (.dT _)=>True
 |some (.set _ _)=>True
 |some (.ins _ _ _)=>True
 |some (.ext _)=>True
 |_=>False
section
variable{P:Program}{w:World}{H:Hp}{h h':Heap}{x e:Addr}{o':HO}
theorem HOk.write(ok:HOk P w H h)(mu:Mut (H x))(he:e=x\/H e=some (.own x))(k:∀b u,b≠e->h.get? b=some u->h'.get? b=some u)(heo:∃u,h'.get? e=some u)
  (new:ObjOk P w (upd H x o') h' x o'):HOk P w (upd H x o') h':=λb u q=>by
 have nown:∀c y,H c=some (.own y)->c≠x:=λc y r z=>by subst z;rwa[r]at mu
 have ntup:∀c xs,H c=some (.tup xs)->c≠x:=λc xs r z=>by subst z;rwa[r]at mu
 by_cases hb:b=x
 ·subst hb;rw[Zz1]at q;cases q;exact new
 ·rw[Zd hb]at q;by_cases hbe:b=e
  ·have q':H b=some (.own x):=by
    rcases he with z|z
    ·exact absurd (hbe.trans z) hb
    ·rwa[hbe]
   rw[q]at q';cases q';obtain⟨v,hv⟩:=heo;exact⟨v,by rwa[hbe]⟩
  ·refine(ok b u q).stay (λc v hc r=>k c v ?_ r) (λc r=>by rwa[Zd (nown c b r)]) λc xs r=>by rwa[Zd (ntup c xs r)]
   rcases hc with rfl|hc
   ·exact hbe
   ·rintro rfl;rcases he with z|z
    ·exact nown c b hc z
    ·rw[hc]at z;cases z;exact hb rfl
end
structure Un (fs ex:List Addr) (H H':Hp) (h h':Heap):Prop where
 keep:∀b o,h.get? b=some o->H b=none->b∉fs->b∉ex->h'.get? b=some o
 slot:∀b o,h.get? b=some o->H b=none->b∈fs->b∉ex->∃sl,h'.get? b=some {o with slots:=sl}
 free:∀b o,h.get? b=some o->H b=none->b∉ex->H' b=none
 there:∀b o,h.get? b=some o->b∉ex->∃o',h'.get? b=some o'
 tups:∀b xs,H b=some (.tup xs)->H' b=some (.tup xs)
 frzs:∀b o u,H b=some (.frz o u)->H' b=some (.frz o u)
 tbls:∀b ps,H b=some (.tbl ps)->∃more,H' b=some (.tbl<|ps++more)
section
variable{fs ex:List Addr}{H H1:Hp}{h h1 h':Heap}{a x e:Addr}{o:HO}
theorem Un.any(u:Un fs ex H H1 h h1){ob:Obj}(q:h.get? b=some ob)(n:H b=none)(hx:b∉ex):∃sl,h1.get? b=some {ob with slots:=sl}:=by
 by_cases hb:b∈fs
 ·exact u.slot b ob q n hb hx
 ·exact⟨ob.slots,u.keep b ob q n hb hx⟩
theorem Un.kept(k:∀b u,h.get? b=some u->h'.get? b=some u):Un fs ex H H h h':=
 ⟨λb ob q _ _ _=>k b ob q,λb ob q _ _ _=>⟨ob.slots,k b ob q⟩,λ_ _ _ n _=>n,λb ob q _=>⟨ob,k b ob q⟩,λ_ _ q=>q,λ_ _ _ q=>q,λ_ ps q=>⟨#[],by rw[q];simp⟩⟩
theorem Un.refl:Un fs ex H H h h:=Un.kept λ_ _ q=>q
theorem Un.laid(k:∀b u,h.get? b=some u->h'.get? b=some u)(hp:h.objs.size<=a)(hn:H a=none):Un fs ex H (upd H a o) h h' where
 keep:=λb u q _ _ _=>k b u q
 slot:=λb u q _ _ _=>⟨u.slots,k b u q⟩
 free:=λb u q n _=>by rwa[Zd (Ym<|Yf (Yi q) hp)]
 there:=λb u q _=>⟨u,k b u q⟩
 tups:=λb xs q=>by rwa[Zd (Ze q hn)]
 frzs:=λb u xs q=>by rwa[Zd (Ze q hn)]
 tbls:=λb ps q=>⟨#[],by rw[Zd (Ze q hn),q];simp⟩
theorem Un.write(mu:Mut (H x))(he:e=x\/H e=some (.own x))(k:∀b u,b≠e->h.get? b=some u->h'.get? b=some u)(heo:∃u,h'.get? e=some u):Un fs ex H (upd H x o) h h':=by
 have hx:∀b,H b=none->b≠x:=λb n z=>by subst z;rwa[n]at mu
 have hb:∀b,H b=none->b≠e:=λb n z=>by
  subst z;rcases he with r|r
  ·exact hx b n r
  ·rw[n]at r;cases r
 have hm:∀b u,H b=some u->¬Mut (some u)->b≠x:=λb u q nm z=>by subst z;rw[q]at mu;exact nm mu
 refine⟨λb u q n _ _=>k b u (hb b n) q,λb u q n _ _=>⟨u.slots,k b u (hb b n) q⟩,λb u q n _=>by rw[Zd (hx b n)];exact n,λb u q _=>?_,
  λb xs q=>by rw[Zd (hm b _ q λz=>z)];exact q,λb u xs q=>by rw[Zd (hm b _ q λz=>z)];exact q,λb ps q=>⟨#[],by rw[Zd (hm b _ q λz=>z),q];simp⟩⟩
 by_cases hbe:b=e
 ·subst hbe;exact heo
 ·exact⟨u,k b u hbe q⟩
end
noncomputable def trk(h:Heap)(H:Hp):List Addr:=(List.range h.objs.size).filter λa=>(H a).isSome
noncomputable def hidT(h:Heap)(H:Hp):Heap:=PySem.W.hideAll h (trk h H)
theorem ZH7(h:Heap)(H:Hp):(hidT h H).objs.size=h.objs.size:=PySem.W.hideAll_size _ _
theorem Zz310{b:Addr}{o:Obj}(e:h.get? b=some o)(n:H b=none):(hidT h H).get? b=some o:=
 PySem.W.hideAll_get _ e λhm=>by have q:(H b).isSome=true:=(Yy.mp hm).2;rw[n]at q;simp at q
theorem Zs11{b:Addr}{o:Obj}(e:(hidT h H).get? b=some o):h.get? b=some o/\H b=none:=by
 have e':h.get? b=some o:=PySem.W.of_hideAll (trk h H) e;refine⟨e',?_⟩;cases q:H b with
 |none=>rfl
 |some x=>
  have hm:b∈trk h H:=Yy.mpr ⟨YE.mpr<|Yi e',by simp[q]⟩;have z:(hidT h H).get? b=none:=Yy18 (trk h H) hm
  rw[z]at e;cases e
noncomputable def Zx12(g h:Heap)(L:Addr):List (Addr×Obj):=(List.range h.objs.size).filterMap λa=>if a=L\/(g.get? a).isSome=true then none else (h.get? a).map λo=>(a,o)
noncomputable def rest(g h:Heap)(L d:Addr):List (Addr×Obj):=(Zx12 g h L).filter λp=>decide (p.1≠d)
structure Mod (K:PySem.W.Frag) (mg:Str->Option Value) (base:Heap):Prop where
 kin:K.In base
 glob:base.Ns mainGlobals mg
 blt:∃mb,base.Ns builtinsNs mb/\∀x:Str,x≠"__name__"->mb x=bootBuiltins x
 nolimit:base.NoLimit
structure Cx where
 prog:Program
 w:World
 K:PySem.W.Frag
 mg:Str->Option Value
 base:Heap
 A:Around
 N:List Str
 s₀:Shared
 H₀:Hp
 env:Env
 outer:List Env
 stack:List Env
 ex:List Addr
 fn:Str->Bool
 calm:Bool
 pn:List (Addr×Obj)
 xe:Value->Shared->Prop
noncomputable def frs(l:List Env):List Addr:=l.filterMap (·.frame)
noncomputable abbrev Cx.fs(X:Cx):List Addr:=frs X.outer
noncomputable def Vis(sc:Scope)(x:Str):Prop:=sc.names.lookup x=some .local\/sc.names.lookup x=some .cell\/sc.names.lookup x=some .free
noncomputable def Loc(sc:Scope)(x:Str):Prop:=sc.names.lookup x=some .local\/sc.names.lookup x=some .cell
noncomputable def Look(env:Env)(h:Heap)(m:Str->Option Value)(x:Str)(u:Value):Prop:=
 (env.kindOf x=some .local/\m x=some u)\/((env.kindOf x=some .cell\/env.kindOf x=some .free)/\∃c,env.cells.lookup x=some c/\h.IsCell c (some u))
structure Cx.Ok (X:Cx):Prop where
 mod:Mod X.K X.mg X.base
 kind:X.env.scope.kind=.function
 glob:X.env.globals=mainGlobals
 blt:X.env.builtins=builtinsNs
 above:X.s₀.heap.objs.size<=X.env.locals
 inj:∀x y c,X.env.cells.lookup x=some c->X.env.cells.lookup y=some c->x=y
 has:∀x,(X.env.kindOf x=some .cell\/X.env.kindOf x=some .free)->∃c,X.env.cells.lookup x=some c
 cab:∀x c,X.fn x=true->X.env.cells.lookup x=some c->X.s₀.heap.objs.size<=c
 hd:X.calm=true->X.A.handled=none
 frames:X.A.frames=some X.stack
 stk:X.stack=X.outer\/(X.stack=X.env::X.outer/\X.env.frame=some X.env.locals)
 exf:∀b∈X.ex,b≠X.env.locals/\∀x c,X.env.cells.lookup x=some c->c≠b
 bs:∀b o,X.base.get? b=some o->X.s₀.heap.get? b=some o/\X.H₀ b=none
 bsz:X.base.objs.size<=X.s₀.heap.objs.size
 noex:∀b o,X.base.get? b=some o->b∉X.ex
 exfs:∀b∈X.ex,b∉X.fs
 funs:X.s₀.heap.FunFrames X.base X.outer
 frf:∀b∈X.fs,X.H₀ b=none
structure Inv (X:Cx) (pins:List (Addr×Obj)) (σ:List (Option V)) (H:Hp) (s:Shared):Prop where
 ok:X.Ok
 os:s.os=X.s₀.os
 bare:AllBare s.gens
 base:Un X.fs X.ex X.H₀ H X.s₀.heap s.heap
 loc:∃m,s.heap.Ns X.env.locals m/\∀(i:Nat)(x:Str)(v:V),X.N[i]?=some x->σ[i]?=some (some v)->Vis X.env.scope x->∃u,RelV v u/\Look X.env s.heap m x u
 cell:∀x c,X.env.cells.lookup x=some c->∃v,s.heap.IsCell c v
 free:H X.env.locals=none
 freeC:∀x c,X.env.cells.lookup x=some c->H c=none
 pin:∀p∈X.pn++pins,s.heap.get? p.1=some p.2/\H p.1=none/\p.1≠X.env.locals/\p.1∉X.fs/\∀v,p.2.data≠.cell v
 hok:HOk X.prog X.w H s.heap
 len:σ.length=X.N.length
section
variable{X:Cx}{pins:List (Addr×Obj)}{σ:List (Option V)}{H H':Hp}{s:Shared}{h':Heap}
theorem Cx.Ok.nofr(ok:X.Ok){b:Addr}{o:Obj}(e:X.base.get? b=some o):b∉X.fs:=λhb=>by
 have:=(ok.funs.mem hb).1
 rw[e]at this;cases this
theorem Inv.bs(I:Inv X pins σ H s):∀b o,X.base.get? b=some o->s.heap.get? b=some o/\H b=none:=λb o e=>
 ⟨I.base.keep b o (I.ok.bs b o e).1 (I.ok.bs b o e).2 (I.ok.nofr e) (I.ok.noex b o e),I.base.free b o (I.ok.bs b o e).1 (I.ok.bs b o e).2 (I.ok.noex b o e)⟩
theorem Inv.bk(I:Inv X pins σ H s):∀b o,X.base.get? b=some o->s.heap.get? b=some o:=λb o e=>(I.bs b o e).1
theorem Inv.mod(I:Inv X pins σ H s):Mod X.K X.mg X.base:=I.ok.mod
theorem Inv.kIn(I:Inv X pins σ H s):X.K.In s.heap:=I.ok.mod.kin.keeps I.bk
theorem Inv.lt(I:Inv X pins σ H s):X.env.locals<s.heap.objs.size:=by obtain⟨_,hn,_⟩:=I.loc;exact hn.lt
theorem Inv.sz(I:Inv X pins σ H s):X.s₀.heap.objs.size<=s.heap.objs.size:=Yv I.ok.above (Y1m I.lt)
theorem Inv.nofs(I:Inv X pins σ H s){a:Addr}(h:s.heap.objs.size<=a):a∉X.fs:=λhb=>by obtain⟨_,o,ho,_⟩:=I.ok.funs.mem hb;exact absurd (Yf (Yi ho)<|Yv I.sz h) (Y0p _)
theorem Inv.cne(I:Inv X pins σ H s):∀x c,X.env.cells.lookup x=some c->c≠X.env.locals:=λx c e z=>by obtain⟨v,o,ho,hd⟩:=I.cell x c e;obtain⟨m,⟨o',es,ep,ho',hd',_⟩,_⟩:=I.loc;rw[z,ho']at ho;cases ho;rw[hd']at hd;cases hd
theorem Inv.funs(I:Inv X pins σ H s):s.heap.FunFrames X.base X.outer:=by
 have all:∀(l:List Env),(∀b∈frs l,b∈X.fs)->X.s₀.heap.FunFrames X.base l->s.heap.FunFrames X.base l:=by
  intro l
  induction l with
  |nil=>intro _ _;trivial
  |cons env r ih=>
   intro hs hl;obtain⟨hk,⟨L,o,hf,hn,ho,hd⟩,hr⟩:=hl;have hL:L∈X.fs:=hs L (by unfold frs;rw[Y1f,hf];exact Yb)
   obtain⟨sl,e⟩:=I.base.slot L o ho (I.ok.frf L hL) hL λz=>I.ok.exfs L z hL;exact⟨hk,⟨L,_,hf,hn,e,hd⟩,ih (λb hb=>hs b<|by unfold frs;rw[Y1f,hf];exact Yc _ hb) hr⟩
 exact all X.outer (λ_ hb=>hb) I.ok.funs
theorem Inv.stack(I:Inv X pins σ H s):s.heap.FunFrames X.base X.stack:=by
 rcases I.ok.stk with e|⟨e,hf⟩
 ·rw[e];exact I.funs
 ·rw[e];obtain⟨m,hn,_⟩:=I.loc;refine .cons (by rw[I.ok.kind];decide) hf hn ?_ I.funs;exact Heap.get?_none_of_le (Yv I.ok.bsz I.ok.above)
theorem Inv.stkSub(I:Inv X pins σ H s):∀b∈frs X.stack,b∈X.env.locals::X.fs:=λb hb=>by
 rcases I.ok.stk with e|⟨e,hf⟩
 ·rw[e]at hb;exact Yc _ hb
 ·rw[e]at hb;unfold frs at hb;rwa[Y1f,hf]at hb
theorem Inv.stkFree(I:Inv X pins σ H s):∀b∈frs X.stack,H b=none:=λb hb=>by
 rcases Ye.mp (I.stkSub b hb) with e|hb
 ·rw[e];exact I.free
 ·obtain⟨_,o,ho,_⟩:=I.ok.funs.mem hb;exact I.base.free b o ho (I.ok.frf b hb) λz=>I.ok.exfs b z hb
theorem Inv.step{g':Array GenState}{t':Nat}{d':Drawn}{ch:List Addr}(I:Inv X pins σ H s)
  (hch:∀b∈ch,(b∈X.ex\/X.s₀.heap.objs.size<=b)/\b≠X.env.locals/\(∀x c,X.env.cells.lookup x=some c->c≠b)/\∀p∈X.pn++pins,p.1≠b)
  (keep:∀b o,b≠X.env.locals->b∉X.fs->b∉ch->s.heap.get? b=some o->H b=none->h'.get? b=some o)
  (slot:∀b o,b≠X.env.locals->b∈X.fs->b∉ch->s.heap.get? b=some o->H b=none->∃sl,h'.get? b=some {o with slots:=sl})(free:∀b o,b∉ch->s.heap.get? b=some o->H b=none->H' b=none)
  (there:∀b o,b∉ch->s.heap.get? b=some o->∃o',h'.get? b=some o')
  (tups:∀b xs,H b=some (.tup xs)->H' b=some (.tup xs))(frzs:∀b o u,H b=some (.frz o u)->H' b=some (.frz o u))(tbls:∀b ps,H b=some (.tbl ps)->∃more,H' b=some (.tbl<|ps++more))
  (ns:∀m,s.heap.Ns X.env.locals m->h'.Ns X.env.locals m)(hok:HOk X.prog X.w H' h')(hg:AllBare g'):
  Inv X pins σ H' {s with heap:=h',gens:=g',drawn:=d',toks:=t'}:=by
 have neL:∀b o,X.s₀.heap.get? b=some o->b≠X.env.locals:=λb o e=>Ym (Yf (Yi e) I.ok.above);have neC:∀b o,X.s₀.heap.get? b=some o->b∉X.ex->b∉ch:=λb o e hx hb=>by
  rcases(hch b hb).1 with z|z
  ·exact hx z
  ·exact absurd (Yf (Yi e) z) (Y0p _)
 have cellK:∀x c,X.env.cells.lookup x=some c->∀v,s.heap.IsCell c v->h'.IsCell c v:=λx c e v ⟨o,ho,hd⟩=>by
  have nch:c∉ch:=λz=>(hch c z).2.2.1 x c e rfl;by_cases hc:c∈X.fs
  ·obtain⟨sl,q⟩:=slot c o (I.cne x c e) hc nch ho (I.freeC x c e);exact⟨_,q,hd⟩
  ·exact⟨o,keep c o (I.cne x c e) hc nch ho<|I.freeC x c e,hd⟩
 refine⟨I.ok,I.os,hg,⟨λb o e n hb hx=>?_,λb o e n hb hx=>?_,λb o e n hx=>?_,λb o e hx=>?_,λb xs e=>tups b xs<|I.base.tups b xs e,λb o xs e=>frzs b o xs<|I.base.frzs b o xs e,λb ps e=>?_⟩,?_,λx c e=>?_,?_,λx c e=>?_,λp hp=>?_,hok,I.len⟩
 ·exact keep b o (neL b o e) hb (neC b o e hx) (I.base.keep b o e n hb hx) (I.base.free b o e n hx)
 ·obtain⟨sl,e1⟩:=I.base.slot b o e n hb hx;obtain⟨sl',e2⟩:=slot b _ (neL b o e) hb (neC b o e hx) e1 (I.base.free b o e n hx);exact⟨sl',e2⟩
 ·obtain⟨o',e1⟩:=I.base.there b o e hx;exact free b o' (neC b o e hx) e1 (I.base.free b o e n hx)
 ·obtain⟨o',e1⟩:=I.base.there b o e hx;exact there b o' (neC b o e hx) e1
 ·obtain⟨m1,e1⟩:=I.base.tbls b ps e;obtain⟨m2,e2⟩:=tbls b _ e1;exact⟨m1++m2,by rw[e2,Array.append_assoc]⟩
 ·obtain⟨m,hn,hl⟩:=I.loc;refine⟨m,ns m hn,λi x v e1 e2 e3=>?_⟩;obtain⟨u,r,l⟩:=hl i x v e1 e2 e3;refine⟨u,r,?_⟩;rcases l with l|⟨k,c,e,z⟩
  ·exact .inl l
  ·exact .inr ⟨k,c,e,cellK x c e _ z⟩
 ·obtain⟨v,z⟩:=I.cell x c e;exact⟨v,cellK x c e v z⟩
 ·obtain⟨m,⟨o,_,_,ho,_⟩,_⟩:=I.loc;exact free _ o (λz=>(hch _ z).2.1 Z) ho I.free
 ·obtain⟨v,o,ho,hd⟩:=I.cell x c e;exact free c o (λz=>(hch c z).2.2.1 x c e Z) ho (I.freeC x c e)
 ·obtain⟨e,n,ne,nf,d⟩:=I.pin p hp;have nch:p.1∉ch:=λz=>(hch p.1 z).2.2.2 p hp rfl
  exact⟨keep p.1 p.2 ne nf nch e n,free p.1 p.2 nch e n,ne,nf,d⟩
theorem Inv.un{t':Nat}(I:Inv X pins σ H s)(u:Un X.fs [] H H' s.heap h')(hok:HOk X.prog X.w H' h'):Inv X pins σ H' {s with heap:=h',toks:=t'}:=by
 obtain⟨m,⟨o,es,ep,ho,r⟩,_⟩:=id I.loc;obtain⟨sl,hL⟩:=u.any ho I.free B;exact I.step (g':=s.gens) (d':=s.drawn) (ch:=[]) (λ_ z=>nomatch z) (λb o _ hb _ e n=>u.keep b o e n hb B) (λb o _ hb _ e n=>u.slot b o e n hb B) (λb o _ e n=>u.free b o e n B) (λb o _ e=>u.there b o e B) u.tups u.frzs u.tbls (λm' hm=>by obtain⟨o',es',ep',ho',r'⟩:=hm;rw[ho]at ho';cases ho';exact⟨_,es',ep',hL,r'⟩) hok I.bare
theorem Inv.call{t':Nat}{d':Drawn}(I:Inv X pins σ H s)(u:Un (frs X.stack) ch H H' s.heap h')(hok:HOk X.prog X.w H' h')(hg:AllBare g')
  (hch:∀b∈ch,(b∈X.ex\/X.s₀.heap.objs.size<=b)/\b≠X.env.locals/\(∀x c,X.env.cells.lookup x=some c->c≠b)/\∀p∈X.pn++pins,p.1≠b):
  Inv X pins σ H' {s with heap:=h',gens:=g',drawn:=d',toks:=t'}:=by
 obtain⟨m,⟨o,es,ep,ho,r⟩,_⟩:=id I.loc;obtain⟨sl,hL⟩:=u.any ho I.free λz=>(hch _ z).2.1 rfl;exact I.step (ch:=ch) hch (λb o hL hb hc e n=>u.keep b o e n (λz=>(Ye.mp<|I.stkSub b z).elim hL hb) hc) (λb o _ _ hc e n=>u.any e n hc) (λb o hc e n=>u.free b o e n hc) (λb o hc e=>u.there b o e hc) u.tups u.frzs u.tbls (λm' hm=>by obtain⟨o',es',ep',ho',r'⟩:=hm;rw[ho]at ho';cases ho';exact⟨_,es',ep',hL,r'⟩) hok hg
theorem Inv.turned{t':Nat}(I:Inv X pins σ H s)(k:∀b o,b≠it->s.heap.get? b=some o->h'.get? b=some o)(hn:H it=none)(hL:it≠X.env.locals)
  (h1:it∈X.ex\/X.s₀.heap.objs.size<=it)(h2:∀x c,X.env.cells.lookup x=some c->c≠it)(h3:∀p∈X.pn++pins,p.1≠it):Inv X pins σ H {s with heap:=h',toks:=t'}:=by
 have nit:∀b u,H b=some u->b≠it:=λb u e z=>by rw[z,hn]at e;cases e
 refine I.step (g':=s.gens) (d':=s.drawn) (ch:=[it]) (λb hb=>?_) (λb o _ _ hc e _=>k b o (λz=>hc<|by simp[z]) e) (λb o _ _ hc e _=>⟨o.slots,k b o (λz=>hc<|by simp[z]) e⟩) (λ_ _ _ _ n=>n)
  (λb o hc e=>⟨o,k b o (λz=>hc<|by simp[z]) e⟩) (λ_ _ e=>e) (λ_ _ _ e=>e) (λb ps e=>⟨#[],by rw[e];simp⟩) (λm hm=>?_) (λb u e=>?_) I.bare
 ·have e:b=it:=by simpa using hb
  subst e;exact⟨h1,hL,h2,h3⟩
 ·obtain⟨o,es,ep,ho,r⟩:=hm;exact⟨o,es,ep,k _ o (YU hL) ho,r⟩
 ·refine(I.hok b u e).stay (λc v hc q=>k c v ?_ q) (λ_ q=>q) λ_ _ q=>q;rcases hc with z|z
  ·rw[z];exact nit b u e
  ·exact nit c _ z
theorem Inv.tok(I:Inv X pins σ H s)(t:Nat):Inv X pins σ H {s with toks:=t}:=I.un (h':=s.heap) (t':=t) Un.refl I.hok
theorem Inv.kept{t':Nat}(I:Inv X pins σ H s)(k:∀b u,s.heap.get? b=some u->h'.get? b=some u):Inv X pins σ H {s with heap:=h',toks:=t'}:=I.un (Un.kept k) (I.hok.kept k)
theorem Inv.laid{t':Nat}(I:Inv X pins σ H s)(k:∀b u,s.heap.get? b=some u->h'.get? b=some u)(hp:s.heap.objs.size<=a)(new:ObjOk X.prog X.w (upd H a o) h' a o):
  Inv X pins σ (upd H a o) {s with heap:=h',toks:=t'}:=I.un (Un.laid k hp<|I.hok.fresh hp) (I.hok.laid k hp new)
theorem Inv.write{t':Nat}(I:Inv X pins σ H s)(mu:Mut (H x))(he:e=x\/H e=some (.own x))(k:∀b u,b≠e->s.heap.get? b=some u->h'.get? b=some u)(heo:∃u,h'.get? e=some u)
  (new:ObjOk X.prog X.w (upd H x o) h' x o):Inv X pins σ (upd H x o) {s with heap:=h',toks:=t'}:=I.un (Un.write mu he k heo) (I.hok.write mu he k heo new)
theorem Inv.weak(I:Inv X pins σ H s)(hl:σ'.length=σ.length)(w:∀(i:Nat) v,σ'[i]?=some (some v)->σ[i]?=some (some v)):Inv X pins σ' H s:=
 ⟨I.ok,I.os,I.bare,I.base,by obtain⟨m,hn,hl'⟩:=I.loc;exact⟨m,hn,λi x v e1 e2 e3=>hl' i x v e1 (w i v e2) e3⟩,I.cell,I.free,I.freeC,I.pin,I.hok,hl.trans I.len⟩
theorem Inv.pins_of(I:Inv X pins σ H s)(h:∀p∈pins',s.heap.get? p.1=some p.2/\H p.1=none/\p.1≠X.env.locals/\p.1∉X.fs/\∀v,p.2.data≠.cell v):Inv X pins' σ H s:=
 ⟨I.ok,I.os,I.bare,I.base,I.loc,I.cell,I.free,I.freeC,λp hp=>(Yj.mp hp).elim (λz=>I.pin p<|Yu _ z) (h p),I.hok,I.len⟩
theorem ZV3{N:List Str}(hN:N.Nodup){i j:Nat}{x:Str}(a:N[i]?=some x)(b:N[j]?=some x):i=j:=by obtain⟨h1,e1⟩:=Yy4.mp a;obtain⟨h2,e2⟩:=Yy4.mp b;exact(List.getElem_inj hN).mp (e1.trans e2.symm)
theorem Zq4{E:Value->Shared->Prop}{i:Nat}{x:Str}{Q:Unit->Shared->Prop}(I:Inv X pins σ H s)(hN:X.N.Nodup)(hi:X.N[i]?=some x)(hx:Loc X.env.scope x)(r:RelV v u)
  (h:∀s',Inv X pins (σ.set i<|some v) H s'->(∃a,Heap.SameBut a s.heap s'.heap/\(a=X.env.locals\/X.env.cells.lookup x=some a))->Q () s')(hf:X.fn x=true\/X.env.scope.names.lookup x=some .local:=by first|exact .inl rfl|exact .inr rfl|assumption):wpAny M A (storeName X.env x u) Q E s:=by
 obtain⟨m,hn,hl⟩:=id I.loc;have hcls:(X.env.scope.kind == .class||(X.env.scope.kind == .module&&X.env.locals != X.env.globals))=false:=by rw[I.ok.kind];rfl
 have hiσ:i<σ.length:=by rw[I.len];exact(Yy4.mp hi).1
 have cne:=I.cne;have tracked:∀{a:Addr}{h':Heap},(∃o,s.heap.get? a=some o/\H a=none)->Heap.SameBut a s.heap h'->HOk X.prog X.w H h':=λ{a h'} ha hs b ob e=>by
  obtain⟨_,_,hfree⟩:=ha;refine(I.hok b ob e).stay (λc w' hc q=>(hs.2 c ?_).trans q) (λ_ q=>q) λ_ _ q=>q;rintro rfl;rcases hc with rfl|hc
  ·rw[hfree]at e;cases e
  ·rw[hfree]at hc;cases hc
 rcases hx with hk|hk
 ·refine wpAny_storeName_local hk hn (λh' hn' hs=>?_) hcls;obtain⟨oL,_,_,hoL,_⟩:=id hn;refine h _ ⟨I.ok,I.os,I.bare,⟨λb o e n hb hx=>?_,λb o e n hb hx=>?_,I.base.free,λb o e hx=>?_,I.base.tups,I.base.frzs,I.base.tbls⟩,⟨_,hn',λj y v' e1 e2 e3=>?_⟩,λy c e=>?_,I.free,I.freeC,λp hp=>?_,tracked ⟨oL,hoL,I.free⟩ hs,by simpa using I.len⟩ ⟨_,hs,.inl Z⟩
  ·exact(hs.2 b<|Ym<|Yf (Yi e) I.ok.above).trans (I.base.keep b o e n hb hx)
  ·obtain⟨sl,e1⟩:=I.base.slot b o e n hb hx;exact⟨sl,(hs.2 b<|Ym<|Yf (Yi e) I.ok.above).trans e1⟩
  ·obtain⟨o',e1⟩:=I.base.there b o e hx;exact⟨o',(hs.2 b<|Ym<|Yf (Yi e) I.ok.above).trans e1⟩
  ·by_cases hj:j=i
   ·subst hj;rw[hi]at e1;cases e1;rw[Y1u hiσ]at e2;cases e2;exact⟨u,r,.inl ⟨hk,B⟩⟩
   ·rw[Y1F (YU hj)]at e2;obtain⟨u',r',q⟩:=hl j y v' e1 e2 e3;refine⟨u',r',?_⟩;rcases q with ⟨k,e⟩|⟨k,c,e,z⟩
    ·refine .inl ⟨k,?_⟩
     have:y≠x:=λe=>hj (ZV3 hN e1<|e▸hi)
     simp[this,e]
    ·exact .inr ⟨k,c,e,z.sameBut hs<|cne y c e⟩
  ·obtain⟨w',z⟩:=I.cell y c e;exact⟨w',z.sameBut hs<|cne y c e⟩
  ·obtain⟨e,n,ne,nf,d⟩:=I.pin p hp;exact⟨(hs.2 p.1 ne).trans e,n,ne,nf,d⟩
 ·have hfn:X.fn x=true:=by
   rcases hf with z|z
   ·exact z
   ·rw[z]at hk;cases hk
  obtain⟨c,hc⟩:=I.ok.has x (.inl hk);obtain⟨w',z⟩:=I.cell x c hc;refine wpAny_storeName_cell I.ok.kind hk hc z λh' hc' hs=>?_;obtain⟨oc,hoc,hocd⟩:=id z;refine h {s with heap:=h'} ⟨I.ok,I.os,I.bare,⟨λb o e n hb hx=>?_,λb o e n hb hx=>?_,I.base.free,λb o e hx=>?_,I.base.tups,I.base.frzs,I.base.tbls⟩,⟨m,hn.sameBut hs<|YU<|cne x c hc,λj y v' e1 e2 e3=>?_⟩,λy c' e=>?_,I.free,I.freeC,λp hp=>?_,tracked ⟨oc,hoc,I.freeC x c hc⟩ hs,by simpa using I.len⟩ ⟨c,hs,.inr hc⟩
  ·exact(hs.2 b<|Ym<|Yf (Yi e)<|I.ok.cab x c hfn hc).trans (I.base.keep b o e n hb hx)
  ·obtain⟨sl,e1⟩:=I.base.slot b o e n hb hx;exact⟨sl,(hs.2 b<|Ym<|Yf (Yi e)<|I.ok.cab x c hfn hc).trans e1⟩
  ·obtain⟨o',e1⟩:=I.base.there b o e hx;exact⟨o',(hs.2 b<|Ym<|Yf (Yi e)<|I.ok.cab x c hfn hc).trans e1⟩
  ·by_cases hj:j=i
   ·subst hj;rw[hi]at e1;cases e1;rw[Y1u hiσ]at e2;cases e2;exact⟨u,r,.inr ⟨.inl hk,c,hc,hc'⟩⟩
   ·rw[Y1F (YU hj)]at e2;obtain⟨u',r',q⟩:=hl j y v' e1 e2 e3;refine⟨u',r',?_⟩;rcases q with q|⟨k,c',e,z'⟩
    ·exact .inl q
    ·refine .inr ⟨k,c',e,z'.sameBut hs ?_⟩;rintro rfl;exact hj (ZV3 hN e1<|I.ok.inj _ _ _ e hc▸hi)
  ·by_cases hcc:c'=c
   ·subst hcc;exact⟨_,hc'⟩
   ·obtain⟨w2,z2⟩:=I.cell y c' e;exact⟨w2,z2.sameBut hs hcc⟩
  ·obtain⟨e,n,ne,nf,d⟩:=I.pin p hp;refine⟨(hs.2 p.1 ?_).trans e,n,ne,nf,d⟩;intro q;rw[q,hoc]at e;have q':oc=p.2:=Yl e
   exact d w' (by rwa[<-q'])
theorem ZK2{E:Value->Shared->Prop}{i:Nat}{x:Str}{Q:Unit->Shared->Prop}(I:Inv X pins σ H s)(hN:X.N.Nodup)(hi:X.N[i]?=some x)(hx:Loc X.env.scope x)(r:RelV v u)
  (h:∀s',Inv X pins (σ.set i<|some v) H s'->Q () s')(hf:X.fn x=true\/X.env.scope.names.lookup x=some .local:=by first|exact .inl rfl|exact .inr rfl|assumption):wpAny M A (storeName X.env x u) Q E s:=
 Zq4 I hN hi hx r (λs' I' _=>h s' I') hf
theorem Inv.call'(I:Inv X pins σ H s)(ho:s'.os=s.os)(u:Un (frs X.stack) ch H H' s.heap s'.heap)(hok:HOk X.prog X.w H' s'.heap)(hg:AllBare s'.gens)
  (hch:∀b∈ch,(b∈X.ex\/X.s₀.heap.objs.size<=b)/\b≠X.env.locals/\(∀x c,X.env.cells.lookup x=some c->c≠b)/\∀p∈X.pn++pins,p.1≠b):Inv X pins σ H' s':=by
 obtain⟨h',g',d',t',o'⟩:=s';have e:o'=s.os:=ho
 subst e;exact I.call (g':=g') (t':=t') (d':=d') u hok hg hch
end
noncomputable abbrev XK:=Value->Option Addr->Hp->Prop
noncomputable abbrev St:=List (Option V)
noncomputable abbrev VK:=V->Hp->Prop
noncomputable abbrev TE:=St->Hp->VK->Prop
noncomputable abbrev TT:=St->Hp->(Bool->Hp->Prop)->Prop
noncomputable abbrev TA:=St->Hp->(List V->Hp->Prop)->Prop
structure Ends where
 nx:St->Hp->Prop
 rt:VK
 bk:St->Hp->Prop:=λ_ _=>False
 ct:St->Hp->Prop:=λ_ _=>False
noncomputable abbrev TS:=Ends->St->Hp->Prop
noncomputable def EP(X:Cx)(pins:List (Addr×Obj))(σ:St)(Q:VK)(u:Value)(s':Shared):Prop:=∃v H',Inv X pins σ H' s'/\RelV v u/\Q v H'
noncomputable def TP(X:Cx)(pins:List (Addr×Obj))(σ:St)(Q:Bool->Hp->Prop)(b:Bool)(s':Shared):Prop:=∃H',Inv X pins σ H' s'/\Q b H'
noncomputable def AP(X:Cx)(pins:List (Addr×Obj))(σ:St)(Q:List V->Hp->Prop)(us:List Value)(s':Shared):Prop:=∃vs H',Inv X pins σ H' s'/\Vals vs us/\Q vs H'
noncomputable def SP(X:Cx)(pins:List (Addr×Obj))(D:Ends)(f:Flow)(s':Shared):Prop:=
 match f with
 | .next=>∃σ' H',Inv X pins σ' H' s'/\D.nx σ' H'
 | .brk=>∃σ' H',Inv X pins σ' H' s'/\D.bk σ' H'
 | .cont=>∃σ' H',Inv X pins σ' H' s'/\D.ct σ' H'
 | .ret u=>∃v σ' H',Inv X pins σ' H' s'/\RelV v u/\D.rt v H'
noncomputable def PE(X:Cx)(e:Expr)(t:TE):Prop:=
 ∀(pins:List (Addr×Obj))(s:Shared)(σ:St)(H:Hp)(Q:VK),Inv X pins σ H s->t σ H Q->wpAny (model X.prog X.w) X.A (eval e X.env) (EP X pins σ Q) X.xe s
noncomputable def PT(X:Cx)(e:Expr)(t:TT):Prop:=
 ∀(pins:List (Addr×Obj))(s:Shared)(σ:St)(H:Hp)(Q:Bool->Hp->Prop),Inv X pins σ H s->t σ H Q->wpAny (model X.prog X.w) X.A (isTrue e X.env<|eval e X.env) (TP X pins σ Q) X.xe s
noncomputable def PW(X:Cx)(e:Expr)(t:TT):Prop:=
 ∀(whole:Sem Value)(pins:List (Addr×Obj))(s:Shared)(σ:St)(H:Hp)(Q:Bool->Hp->Prop),Inv X pins σ H s->t σ H Q->wpAny (model X.prog X.w) X.A (isTrue e X.env whole) (TP X pins σ Q) X.xe s
theorem PW.pt(h:PW X e t):PT X e t:=h _
noncomputable def PA(X:Cx)(es:List Expr)(t:TA):Prop:=
 ∀(pos:Pos)(pins:List (Addr×Obj))(s:Shared)(σ:St)(H:Hp)(Q:List V->Hp->Prop),Inv X pins σ H s->t σ H Q->wpAny (model X.prog X.w) X.A (spliced<|backTo pos<|starEach es X.env) (AP X pins σ Q) X.xe s
noncomputable def PS(X:Cx)(st:Stmt)(t:TS):Prop:=
 ∀(pins:List (Addr×Obj))(s:Shared)(σ:St)(H:Hp)(D:Ends),Inv X pins σ H s->t D σ H->wpAny (model X.prog X.w) X.A (exec st X.env) (SP X pins D) X.xe s
noncomputable def PSs(X:Cx)(st:List Stmt)(t:TS):Prop:=
 ∀(pins:List (Addr×Obj))(s:Shared)(σ:St)(H:Hp)(D:Ends),Inv X pins σ H s->t D σ H->wpAny (model X.prog X.w) X.A (execs st X.env) (SP X pins D) X.xe s
theorem thn{α:Type}{t:Sem α}{Q Q':α->Shared->Prop}{M:Model}{A:Around}{E:Value->Shared->Prop}{s:Shared}(h:wpAny M A t Q E s)(hQ:∀a s,Q a s->Q' a s):wpAny M A t Q' E s:=Yy07 h hQ λ_ _ x=>x
section
variable{X:Cx}
noncomputable def tVar(i:Nat):TE:=λσ H Q=>∃v,σ[i]?=some (some v)/\Q v H
noncomputable def tC(v:V):TE:=λ_ H Q=>Q v H
theorem Zc13 {x:Str} {pos:Pos} (hN:X.N[i]?=some x) (hv:Vis X.env.scope x) (hd:(x == ("__debug__":Str))=false:=by decide) (hcd:(x == ("__classdict__":Str))=false:=by decide):PE X (.Name x pos) (tVar i):=by
 intro pins s σ H Q I h;obtain⟨v,e,h⟩:=h;obtain⟨m,hn,hl⟩:=I.loc;obtain⟨u,r,l⟩:=hl i x v hN e hv;have fin:EP X pins σ Q u s:=⟨v,H,I,r,h⟩
 rcases l with ⟨hk,hm⟩|⟨hk,c,hc,hcell⟩
 ·exact wpAny_Name (wpAny_loadName_local I.ok.kind hk hn hm fin) hd
 ·rcases hk with hk|hk
  ·exact wpAny_Name (wpAny_loadName_cell I.ok.kind hk hc hcell fin) hd
  ·exact wpAny_Name (wpAny_loadName_free I.ok.kind hk hc hcell fin hcd) hd
theorem Zz7{i j pos}:PE X (.Constant (.int i) j pos) (tC (.int i)):=λ_ _ _ H _ I h=>wpAny_Constant_int ⟨.int i,H,I.tok _,⟨_,Z⟩,h⟩
theorem Zv2{b j pos}:PE X (.Constant (.bool b) j pos) (tC (.bl b)):=λ_ _ _ H _ I h=>Constant_bool ⟨.bl b,H,I,Z,h⟩
theorem Zz16{j pos}:PE X (.Constant .none j pos) (tC .non):=λ_ _ _ H _ I h=>Constant_none ⟨.non,H,I,Z,h⟩
theorem Zr{x j pos}:PE X (.Constant (.str x) j pos) (tC (.str x)):=λ_ _ _ H _ I h=>Calls.Constant_str ⟨.str x,H,I.tok _,⟨_,Z⟩,h⟩
noncomputable def Gl(X:Cx)(x:Str):Prop:=X.env.kindOf x=some .globalImplicit
theorem ZG2{E:Value->Shared->Prop}{u:Value}{pos:Pos}{Q:Value->Shared->Prop}(I:Inv X pins σ H s)(hg:Gl X x)(hm:X.mg x=some u)(h:Q u s)
  (hd:(x == ("__debug__":Str))=false:=by decide):wpAny (model X.prog X.w) X.A (eval (.Name x pos) X.env) Q E s:=
 Yy22 I.ok.kind hg (Calls.loadGlobal_global (by rw[I.ok.glob];exact I.mod.glob.keeps I.bk) hm h) hd
theorem Zw2{E:Value->Shared->Prop}{u:Value}{pos:Pos}{Q:Value->Shared->Prop}(I:Inv X pins σ H s)(hg:Gl X x)(hm:X.mg x=none)(hv:bootBuiltins x=some u)(h:Q u s)
  (hn:x≠"__name__":=by decide)(hd:(x == ("__debug__":Str))=false:=by decide):wpAny (model X.prog X.w) X.A (eval (.Name x pos) X.env) Q E s:=by obtain⟨mb,h1,h2⟩:=I.mod.blt;exact Yy22 I.ok.kind hg (Calls.loadGlobal_builtin (by rw[I.ok.glob];exact I.mod.glob.keeps I.bk) hm (by rw[I.ok.blt];exact h1.keeps I.bk) ((h2 x hn).trans hv) h) hd
theorem Zq1 {u:Value} {pos:Pos} (hg:Gl X x) (hm:X.mg x=some u) (r:RelV v u) (hd:(x == ("__debug__":Str))=false:=by decide):PE X (.Name x pos) (tC v):=
 λ_ _ _ H _ I h=>ZG2 I hg hm ⟨v,H,I,r,h⟩ hd
theorem Zl11 {u:Value} {pos:Pos} (hg:Gl X x) (hm:X.mg x=none) (hv:bootBuiltins x=some u) (r:RelV v u) (hn:x≠"__name__":=by decide) (hd:(x == ("__debug__":Str))=false:=by decide):PE X (.Name x pos) (tC v):=
 λ_ _ _ H _ I h=>Zw2 I hg hm hv ⟨v,H,I,r,h⟩ hn hd
variable{a b:Expr}{ta tb:TE}{pos:Pos}
noncomputable def tB(t:TE):TT:=λσ H Q=>t σ H λx H1=>∃c,x=.bl c/\Q c H1
theorem Zm3{e:Expr}{t:TE}(h:PE X e t)(he:∀whole,isTrue e X.env whole=(do let v <-whole;standAt e.pos;holding [v] (truthy v)):=by intro _;rfl):PT X e (tB t):=by intro pins s σ H Q I hw;refine isTrue_plain (thn (h pins s σ H _ I hw) λv s1 zz=>?_) (he _);obtain⟨x,H1,I1,r1,q1⟩:=zz;obtain⟨d,rfl,q⟩:=q1;cases r1;exact Y0J ⟨H1,I1,q⟩
variable{tA tB':TT}{rest:List Expr}
noncomputable def tAnd(t u:TT):TT:=λσ H Q=>t σ H λc H1=>if c=true then u σ H1 Q else Q false H1
noncomputable def tOr(t u:TT):TT:=λσ H Q=>t σ H λc H1=>if c=true then Q true H1 else u σ H1 Q
noncomputable def tNot(t:TT):TT:=λσ H Q=>t σ H λc H1=>Q (!c) H1
theorem ZC2(ha:PT X a tA):PW X (.BoolOp .And [a] pos) tA:=by
 intro wh pins s σ H Q I h;refine isTrue_and (thn (ha pins s σ H Q I h) λc s1 e=>?_);cases c with
 |true=>exact isTrue_and_nil e
 |false=>exact e
theorem Zb5(ha:PT X a tA):PW X (.BoolOp .Or [a] pos) tA:=by
 intro wh pins s σ H Q I h;refine isTrue_or (thn (ha pins s σ H Q I h) λc s1 e=>?_);cases c with
 |false=>exact isTrue_or_nil e
 |true=>exact e
theorem Zc5(ha:PT X a tA)(hb:PW X (.BoolOp .And (b::rest) pos) tB'):PW X (.BoolOp .And (a::b::rest) pos) (tAnd tA tB'):=by
 intro wh pins s σ H Q I h;refine isTrue_and (thn (ha pins s σ H _ I h) λc s1 hz0=>?_);obtain⟨H1,I1,q1⟩:=hz0;cases c with
 |true=>exact hb wh pins s1 σ H1 Q I1 q1
 |false=>exact⟨H1,I1,q1⟩
theorem ZD10(ha:PT X a tA)(hb:PW X (.BoolOp .Or (b::rest) pos) tB'):PW X (.BoolOp .Or (a::b::rest) pos) (tOr tA tB'):=by
 intro wh pins s σ H Q I h;refine isTrue_or (thn (ha pins s σ H _ I h) λc s1 hz0=>?_);obtain⟨H1,I1,q1⟩:=hz0;cases c with
 |true=>exact⟨H1,I1,q1⟩
 |false=>exact hb wh pins s1 σ H1 Q I1 q1
theorem ZN2(ha:PT X a tA):PT X (.UnaryOp .Not a pos) (tNot tA):=by intro pins s σ H Q I h;exact isTrue_not (ha pins s σ H (λc H1=>Q (!c) H1) I h)
noncomputable def ZZ13(ta tb:TE):TE:=λσ H Q=>ta σ H λx H1=>∃c,x=.bl c/\if c=true then tb σ H1 Q else Q (.bl false) H1
noncomputable def tOrV(ta tb:TE):TE:=λσ H Q=>ta σ H λx H1=>∃c,x=.bl c/\if c=true then Q (.bl true) H1 else tb σ H1 Q
theorem Zh11{op}(h:PE X a t):PE X (.BoolOp op [a] pos) t:=λpins s σ H Q I hw=>BoolOp_one (h pins s σ H Q I hw)
theorem Zm11(ha:PE X a ta)(hb:PE X (.BoolOp .And (b::rest) pos) tb):PE X (.BoolOp .And (a::b::rest) pos) (ZZ13 ta tb):=by
 intro pins s σ H Q I h;refine BoolOp_and (thn (ha pins s σ H _ I h) λv s1 hz0=>?_);obtain⟨x,H1,I1,r1,q1⟩:=hz0;obtain⟨c,rfl,q1⟩:=q1;cases r1;refine Y0J ?_;cases c with
 |true=>exact hb pins s1 σ H1 Q I1 q1
 |false=>exact⟨.bl false,H1,I1,Z,q1⟩
theorem Zk14(ha:PE X a ta)(hb:PE X (.BoolOp .Or (b::rest) pos) tb):PE X (.BoolOp .Or (a::b::rest) pos) (tOrV ta tb):=by
 intro pins s σ H Q I h;refine BoolOp_or (thn (ha pins s σ H _ I h) λv s1 hz0=>?_);obtain⟨x,H1,I1,r1,q1⟩:=hz0;obtain⟨c,rfl,q1⟩:=q1;cases r1;refine Y0J ?_;cases c with
 |false=>exact hb pins s1 σ H1 Q I1 q1
 |true=>exact⟨.bl true,H1,I1,Z,q1⟩
noncomputable def tIf(t:TT)(ta tb:TE):TE:=λσ H Q=>t σ H λc H1=>if c=true then ta σ H1 Q else tb σ H1 Q
theorem Zj2{c:Expr}(hc:PT X c tA)(ha:PE X a ta)(hb:PE X b tb):PE X (.IfExp c a b pos) (tIf tA ta tb):=by
 intro pins s σ H Q I h;refine wpAny_IfExp (thn (hc pins s σ H _ I h) λd s1 hz0=>?_);obtain⟨H1,I1,q1⟩:=hz0;cases d with
 |true=>exact ha pins s1 σ H1 Q I1 q1
 |false=>exact hb pins s1 σ H1 Q I1 q1
end
noncomputable def SqL(K:PySem.W.Frag)(H:Hp)(a:Addr)(xs:List V):Prop:=
 Rd H a (.lst xs)\/
  ∃(o:Obj)(its:Array Value)(n:Nat),K.lookup a=some o/\o.cls=.type "list"/\o.dict=none/\o.data=.seq its n/\its.size<=sizeLine/\Vals xs its.toList
noncomputable def SqT(K:PySem.W.Frag)(H:Hp)(a:Addr)(xs:List V):Prop:=
 Rd H a (.tup xs)\/
  ∃(o:Obj)(its:Array Value)(n:Nat),K.lookup a=some o/\o.cls=.type "tuple"/\o.data=.seq its n/\its.size<=sizeLine/\Vals xs its.toList
noncomputable def absV:Value->Option V
 | .none=>some .non
 | .bool b=>some (.bl b)
 | .int i _=>some (.int i)
 | .str x _=>some (.str x)
 | .bytes b _=>some (.byt b)
 | .float b _=>some (.flt b)
 | .ref a=>some (.ref a)
 | .type n=>some (.ty n)
 |_=>none
theorem RelV.abs(r:RelV x u):absV u=some x:=by
 cases x with
 |non=>cases r;rfl
 |bl _=>cases r;rfl
 |int _=>obtain⟨t,rfl⟩:=r;rfl
 |str _=>obtain⟨t,rfl⟩:=r;rfl
 |byt _=>obtain⟨t,rfl⟩:=r;rfl
 |flt _=>obtain⟨t,rfl⟩:=r;rfl
 |ref _=>cases r;rfl
 |ty _=>cases r;rfl
theorem RelV.inj(r:RelV x u)(q:RelV y u):x=y:=Yl (r.abs.symm.trans q.abs)
theorem Vals.inj{xs ys:List V}{us:List Value}(h:Vals xs us)(h':Vals ys us):xs=ys:=by
 induction h generalizing ys with
 |nil=>cases h';rfl
 |cons r t ih=>cases h' with
  |cons r' t'=>rw[r.inj r',ih t']
section
variable{X:Cx}{pins:List (Addr×Obj)}{σ:St}{H:Hp}{s:Shared}{a:Addr}{xs ys:List V}
theorem SqL.of{K:PySem.W.Frag}(h:H a=some (.lst xs)):SqL K H a xs:=.inl (.inl h)
theorem SqT.of{K:PySem.W.Frag}(h:H a=some (.tup xs)):SqT K H a xs:=.inl (.inl h)
theorem Inv.list(I:Inv X pins σ H s)(h:SqL X.K H a xs):∃its:List Value,Vals xs its/\PlainL s.heap a its.toArray/\xs.length<=sizeLine:=by
 rcases h with h|⟨o,its,n,hk,hc,hd,hs,hz,r⟩
 ·obtain⟨z,its,n,r,e⟩:=h.ok I.hok;exact⟨its,r,⟨_,n,e,Z,Z,Z⟩,z⟩
 ·refine⟨its.toList,r,⟨o,n,I.kIn a o hk,hc,hd,by simpa using hs⟩,?_⟩;have e:=r.length
  simp only[YI]at e;lia
theorem Inv.tuple(I:Inv X pins σ H s)(h:SqT X.K H a xs):∃its:List Value,Vals xs its/\IsTup s.heap a its.toArray/\xs.length<=sizeLine:=by
 rcases h with h|⟨o,its,n,hk,hc,hs,hz,r⟩
 ·obtain⟨z,its,r,p⟩:=h.ok I.hok;exact⟨its,r,p,z⟩
 ·refine⟨its.toList,r,⟨o,I.kIn a o hk,hc,n,by simpa using hs⟩,?_⟩;have e:=r.length
  simp only[YI]at e;omega
theorem Inv.list_inj(I:Inv X pins σ H s)(h:SqL X.K H a xs)(h':SqL X.K H a ys):xs=ys:=by
 obtain⟨its,r,⟨o,n,e,_,_,d⟩,_⟩:=I.list h;obtain⟨its',r',⟨o',n',e',_,_,d'⟩,_⟩:=I.list h';rw[e]at e';cases e';rw[d]at d';injection d' with d1 _
 have:its=its':=by simpa using YX Array.toList d1
 subst this;exact r.inj r'
theorem Inv.tuple_inj(I:Inv X pins σ H s)(h:SqT X.K H a xs)(h':SqT X.K H a ys):xs=ys:=by
 obtain⟨its,r,⟨o,e,_,n,d⟩,_⟩:=I.tuple h;obtain⟨its',r',⟨o',e',_,n',d'⟩,_⟩:=I.tuple h';rw[e]at e';cases e';rw[d]at d';injection d' with d1 _
 have:its=its':=by simpa using YX Array.toList d1
 subst this;exact r.inj r'
end
noncomputable abbrev Cx.wish(X:Cx)(E:Value->Shared->Prop):Cx:={X with xe:=E}
noncomputable abbrev Cx.nox(X:Cx):Cx:=X.wish λ_ _=>False
theorem Cx.Ok.wish{X:Cx}(ok:X.Ok)(E:Value->Shared->Prop):(X.wish E).Ok:=
 ⟨ok.mod,ok.kind,ok.glob,ok.blt,ok.above,ok.inj,ok.has,ok.cab,ok.hd,ok.frames,ok.stk,ok.exf,ok.bs,ok.bsz,ok.noex,ok.exfs,ok.funs,ok.frf⟩
theorem Cx.Ok.unwish{X:Cx}{E:Value->Shared->Prop}(ok:(X.wish E).Ok):X.Ok:=
 ⟨ok.mod,ok.kind,ok.glob,ok.blt,ok.above,ok.inj,ok.has,ok.cab,ok.hd,ok.frames,ok.stk,ok.exf,ok.bs,ok.bsz,ok.noex,ok.exfs,ok.funs,ok.frf⟩
section
variable{X:Cx}{pins:List (Addr×Obj)}{σ:St}{H:Hp}{s:Shared}{E:Value->Shared->Prop}
theorem Inv.wish(I:Inv X pins σ H s)(E:Value->Shared->Prop):Inv (X.wish E) pins σ H s:=⟨I.ok.wish E,I.os,I.bare,I.base,I.loc,I.cell,I.free,I.freeC,I.pin,I.hok,I.len⟩
theorem Inv.unwish(I:Inv (X.wish E) pins σ H s):Inv X pins σ H s:=⟨I.ok.unwish,I.os,I.bare,I.base,I.loc,I.cell,I.free,I.freeC,I.pin,I.hok,I.len⟩
theorem SP.unwish(h:SP (X.wish E) pins D f s'):SP X pins D f s':=by
 cases f with
 |next=>obtain⟨σ',H',I,q⟩:=h;exact⟨σ',H',I.unwish,q⟩
 |brk=>obtain⟨σ',H',I,q⟩:=h;exact⟨σ',H',I.unwish,q⟩
 |cont=>obtain⟨σ',H',I,q⟩:=h;exact⟨σ',H',I.unwish,q⟩
 |ret u=>obtain⟨v,σ',H',I,r,q⟩:=h;exact⟨v,σ',H',I.unwish,r,q⟩
theorem PSs.nox{st:List Stmt}{t:TS}(h:PSs X.nox st t):PSs X st t:=λpins s σ H D I hw=>
 Yy07 (h pins s σ H D (I.wish _) hw) (λ_ _ q=>q.unwish) λ_ _ z=>False.elim z
end
section
variable{X:Cx}{st:Stmt}{rest:List Stmt}{t u:TS}{e:Expr}{te:TE}{pos:Pos}
noncomputable def ZV13:TS:=λD σ H=>D.nx σ H
noncomputable def tSeq(t u:TS):TS:=λD σ H=>t {D with nx:=u D} σ H
theorem Zm:PSs X [] ZV13:=λ_ _ σ H _ I h=>Y1Z ⟨σ,H,I,h⟩
theorem Zz2(h1:PS X st t)(h2:PSs X rest u):PSs X (st::rest) (tSeq t u):=by
 intro pins s σ H D I h;refine wpAny_execs_cons (thn (h1 pins s σ H {D with nx:=u D} I h) λf s1 q=>?_);cases f with
 |next=>
  obtain⟨σ',H',I',q⟩:=q;exact h2 pins s1 σ' H' D I' q
 |ret v=>exact q
 |brk=>exact q
 |cont=>exact q
theorem Zz5(h1:PS X st t):PSs X [st] t:=by
 intro pins s σ H D I h;refine wpAny_execs_cons (thn (h1 pins s σ H D I h) λf s1 q=>?_);cases f with
 |next=>exact Y1Z q
 |ret v=>exact q
 |brk=>exact q
 |cont=>exact q
theorem Inv.quiet(I:Inv X pins σ H s):interactive X.env=false:=by simp[interactive,I.ok.kind]
noncomputable def ZI13(te:TE):TS:=λD σ H=>te σ H λ_ H1=>D.nx σ H1
theorem ZQ(he:PE X e te)(hs:swapsWith e none pos.line X.env=pure false:=by rfl):PS X (.Expr e pos) (ZI13 te):=by intro pins s σ H D I h;exact wpAny_Expr_any (thn (he pins s σ H _ I h) λv s1 zz=>by obtain⟨x,H1,I1,r1,q1⟩:=zz;exact⟨σ,H1,I1,q1⟩) I.quiet hs
noncomputable def tRet(te:TE):TS:=λD σ H=>te σ H D.rt
theorem Zk(he:PE X e te):PS X (.Return (some e) pos) (tRet te):=by intro pins s σ H D I h;exact wpAny_Return_some (thn (he pins s σ H _ I h) λv s1 zz=>by obtain⟨x,H1,I1,r1,q1⟩:=zz;exact⟨x,σ,H1,I1,r1,q1⟩)
noncomputable def tIfS(c:TT)(t u:TS):TS:=λD σ H=>c σ H λb H1=>if b=true then t D σ H1 else u D σ H1
theorem Zz61{c:Expr}{a b:List Stmt}{tc:TT}(hc:PT X c tc)(ha:PSs X a t)(hb:PSs X b u):PS X (.If c a b pos) (tIfS tc t u):=by
 intro pins s σ H D I h;refine wpAny_If (thn (hc pins s σ H _ I h) λd s1 hz0=>?_);obtain⟨H1,I1,q1⟩:=hz0;cases d with
 |true=>exact ha pins s1 σ H1 D I1 q1
 |false=>exact hb pins s1 σ H1 D I1 q1
noncomputable def ZQ12:TS:=λ_ _ _=>False
theorem Zf2:PS X st ZQ12:=λ_ _ _ _ _ _ h=>h.elim
end
noncomputable abbrev TG:=V->St->Hp->(St->Hp->Prop)->Prop
noncomputable abbrev TGs:=List V->St->Hp->(St->Hp->Prop)->Prop
noncomputable def PG(X:Cx)(target:Expr)(t:TG):Prop:=
 ∀(pins:List (Addr×Obj))(s:Shared)(σ:St)(H:Hp)(v:V)(u:Value)(Q:St->Hp->Prop),Inv X pins σ H s->RelV v u->t v σ H Q->
  wpAny (model X.prog X.w) X.A (assign target X.env u) (λ_ s'=>∃σ' H',Inv X pins σ' H' s'/\Q σ' H') X.xe s
noncomputable def PGs(X:Cx)(ts:List Expr)(t:TGs):Prop:=
 ∀(pins:List (Addr×Obj))(s:Shared)(σ:St)(H:Hp)(vs:List V)(us:List Value)(Q:St->Hp->Prop),Inv X pins σ H s->Vals vs us->t vs σ H Q->
  wpAny (model X.prog X.w) X.A (assignInOrder ((assignEach ts X.env).map (·.2)) us) (λ_ s'=>∃σ' H',Inv X pins σ' H' s'/\Q σ' H') X.xe s
noncomputable abbrev TSet:=V->V->V->Hp->(Hp->Prop)->Prop
noncomputable def PSet(X:Cx)(t:TSet):Prop:=
 ∀(pins:List (Addr×Obj))(s:Shared)(σ:St)(H:Hp)(o i v:V)(ov iv u:Value)(Q:Hp->Prop),Inv X pins σ H s->RelV o ov->RelV i iv->RelV v u->t o i v H Q->
  wpAny (model X.prog X.w) X.A (setItem ov iv u) (λ_ s'=>∃H',Inv X pins σ H' s'/\Q H') X.xe s
noncomputable abbrev TIp:=V->V->Hp->VK->Prop
noncomputable def PIp(X:Cx)(op:Operator)(t:TIp):Prop:=
 ∀(pins:List (Addr×Obj))(s:Shared)(σ:St)(H:Hp)(x y:V)(v u:Value)(Q:VK),Inv X pins σ H s->RelV x v->RelV y u->t x y H Q->
  wpAny (model X.prog X.w) X.A (inplaceOp op v u) (EP X pins σ Q) X.xe s
section
variable{X:Cx}{pos:Pos}
noncomputable def Zz910(i:Nat):TG:=λv σ H Q=>Q (σ.set i<|some v) H
theorem Zf{x:Str}(hN:X.N.Nodup)(hi:X.N[i]?=some x)(hx:Loc X.env.scope x)(hf:X.fn x=true\/X.env.scope.names.lookup x=some .local:=by first|exact .inl rfl|exact .inr rfl|assumption):PG X (.Name x pos) (Zz910 i):=by intro pins s σ H v u Q I r h;exact wpAny_assign_Name (ZK2 I hN hi hx r (λs' I'=>⟨_,H,I',h⟩) hf)
noncomputable def gNil:TGs:=λvs σ H Q=>vs=[]/\Q σ H
noncomputable def ZP13(t:TG)(u:TGs):TGs:=λvs σ H Q=>∃v r,vs=v::r/\t v σ H λσ' H'=>u r σ' H' Q
theorem Zu1:PGs X [] gNil:=by intro pins s σ H vs us Q I r h;obtain⟨e,h⟩:=h;subst e;cases r;exact assignInOrder_nil ⟨σ,H,I,h⟩
theorem Zv{e:Expr}{es:List Expr}{t:TG}{u:TGs}(h1:PG X e t)(h2:PGs X es u)
  (hs:(assignEach (e::es) X.env).map (·.2)=assign e X.env::(assignEach es X.env).map (·.2):=by rfl):PGs X (e::es) (ZP13 t u):=by
 intro pins s σ H vs us Q I r h;obtain⟨v,vr,e1,h⟩:=h;subst e1;cases r with
 |cons r rr=>
  rw[hs];refine assignInOrder_cons (thn (h1 pins s σ H _ _ _ I r h) λ_ s1 hz0=>?_);obtain⟨σ1,H1,I1,q1⟩:=hz0;exact h2 pins s1 σ1 H1 _ _ Q I1 rr q1
noncomputable def gTup(K:PySem.W.Frag)(n:Nat)(t:TGs):TG:=λv σ H Q=>∃a xs,v=.ref a/\SqT K H a xs/\xs.length=n/\t xs σ H Q
theorem Zb13{k:Nat}(hc:X.calm=true)(h:PGs X es t)
  (hn:(assignEach es X.env).length=n:=by rfl)(hst:(assignEach es X.env).findIdx? (·.1)=none:=by rfl):PG X (.Tuple es k pos) (gTup X.K n t):=by
 intro pins s σ H v u Q I r hw;obtain⟨a,xs,e1,hq,hl,hw⟩:=hw;subst e1;cases r;obtain⟨its,rv,ht,hz⟩:=I.tuple hq;refine assign_Tuple_tuple (I.ok.hd hc) ht (by simp[hn,<-hl,rv.length]) hst λh' hx=>?_;have I1:Inv X pins σ H {s with heap:=h'}:=I.kept (t':=s.toks) λb o e=>hx b o (Ym<|Yi e) e
 exact h pins _ σ H xs _ Q I1 (by simpa using rv) hw
noncomputable def gSub(to ti:TE)(t:TSet):TG:=λv σ H Q=>to σ H λo H1=>ti σ H1 λi H2=>t o i v H2 λH3=>Q σ H3
theorem Zq7{o i:Expr}{to ti:TE}{t:TSet}(ho:PE X o to)(hi:PE X i ti)(hs:PSet X t)
  (ha:∀v,assign (.Subscript o i pos) X.env v=(do
   let ov <-holding [v] (eval o X.env)
   let iv <-holding [v,ov] (eval i X.env)
   standAt pos
   holding [v,ov,iv] (setItem ov iv v)
   release [v,ov,iv] []):=by intro _;rfl):PG X (.Subscript o i pos) (gSub to ti t):=by intro pins s σ H v u Q I r h;rw[ha];refine Yy1 (Y1k<|thn (ho pins s σ H _ I h) λov s1 hz0=>?_);obtain⟨x,H1,I1,r1,q1⟩:=hz0;refine Yy1 (Y1k<|thn (hi pins s1 σ H1 _ I1 q1) λiv s2 hz0=>?_);obtain⟨y,H2,I2,r2,q2⟩:=hz0;refine Yy1 (Yy35<|Yy1<|Y1k<|thn (hs pins s2 σ H2 x y v ov iv u _ I2 r1 r2 r q2) λ_ s3 hz0=>?_);obtain⟨H3,I3,q3⟩:=hz0;exact wpAny_release ⟨σ,H3,I3,q3⟩
noncomputable def tAsg(te:TE)(g:TG):TS:=λD σ H=>te σ H λx H1=>g x σ H1 D.nx
theorem ZP3{tg e:Expr}{te:TE}{g:TG}(he:PE X e te)(hg:PG X tg g)(hs:swapsWithSole [tg] e pos.line X.env=pure false:=by rfl)(hw:swappedStores [tg] e X.env=pure none:=by rfl)
  (h1:(assignEach [tg] X.env).map (·.2)=[assign tg X.env]:=by rfl):PS X (.Assign [tg] e pos) (tAsg te g):=by intro pins s σ H D I h;refine wpAny_Assign_stores (thn (he pins s σ H _ I h) λv s1 hz0=>?_) hs hw;obtain⟨x,H1,I1,r1,q1⟩:=hz0;rw[h1];exact thn (hg pins s1 σ H1 x v _ I1 r1 q1) λ_ s2 q=>q
theorem Zg{i:Nat}{x:Str}{e:Expr}{te:TE}{pos':Pos}(hN:X.N.Nodup)(hi:X.N[i]?=some x)(hx:Loc X.env.scope x)(he:PE X e te)(hs:swapsWith e (some (.Name x pos')) pos.line X.env=pure false:=by rfl)(hf:X.fn x=true\/X.env.scope.names.lookup x=some .local:=by first|exact .inl rfl|exact .inr rfl|assumption):
  PS X (.Assign [.Name x pos'] e pos) (tAsg te<|Zz910 i):=by intro pins s σ H D I h;refine wpAny_Assign_Name (thn (he pins s σ H _ I h) λv s1 hz0=>?_) hs;obtain⟨y,H1,I1,r1,q1⟩:=hz0;exact ZK2 I1 hN hi hx r1 (λs2 I2=>⟨_,H1,I2,q1⟩) hf
noncomputable def tAug(i:Nat)(te:TE)(ti:TIp):TS:=λD σ H=>∃x,σ[i]?=some (some x)/\te σ H λy H1=>ti x y H1 λz H2=>D.nx (σ.set i<|some z) H2
theorem Zz813{i:Nat}{x:Str}{e:Expr}{te:TE}{op:Operator}{ti:TIp}{pos':Pos}(hN:X.N.Nodup)(hi:X.N[i]?=some x)(hx:Loc X.env.scope x)(he:PE X e te)(ho:PIp X op ti)(hf:X.fn x=true\/X.env.scope.names.lookup x=some .local:=by first|exact .inl rfl|exact .inr rfl|assumption):
  PS X (.AugAssign (.Name x pos') op e pos) (tAug i te ti):=by
 intro pins s σ H D I h;obtain⟨v,e1,h⟩:=h;obtain⟨m,hn,hl⟩:=I.loc;have vis:Vis X.env.scope x:=by rcases hx with k|k;exact .inl k;exact .inr (.inl k)
 obtain⟨u,r,l⟩:=hl i x v hi e1 vis;refine wpAny_AugAssign_Name ?_;have go:wpAny (model X.prog X.w) X.A (eval e X.env) (λw s₂=>wpAny (model X.prog X.w) X.A (inplaceOp op u w) (λr s₃=>wpAny (model X.prog X.w) X.A (storeName X.env x r) (λ_=>SP X pins D .next) X.xe s₃) X.xe s₂) X.xe s:=by refine thn (he pins s σ H _ I h) λw s1 hz0=>?_;obtain⟨y,H1,I1,r1,q1⟩:=hz0;refine thn (ho pins s1 σ H1 v y u w _ I1 r r1 q1) λz s2 hz0=>?_;obtain⟨zv,H2,I2,r2,q2⟩:=hz0;exact ZK2 I2 hN hi hx r2 (λs3 I3=>⟨_,H2,I3,q2⟩) hf
 rcases l with ⟨hk,hm⟩|⟨hk,c,hc,hcell⟩
 ·exact wpAny_loadName_local I.ok.kind hk hn hm go
 ·rcases hk with hk|hk
  ·exact wpAny_loadName_cell I.ok.kind hk hc hcell go
  ·rcases hx with k|k
   ·have:X.env.scope.names.lookup x=some .free:=hk
    rw[k]at this;cases this
   ·have:X.env.scope.names.lookup x=some .free:=hk
    rw[k]at this;cases this
noncomputable def ZY13(to ti te:TE)(tget:V->V->Hp->VK->Prop)(tip:TIp)(tset:TSet):TS:=λD σ H=>to σ H λo H1=>ti σ H1 λi H2=>tget o i H2 λx H3=>te σ H3 λy H4=>tip x y H4 λz H5=>tset o i z H5 λH6=>D.nx σ H6
noncomputable def PGet(X:Cx)(t:V->V->Hp->VK->Prop):Prop:=
 ∀(pins:List (Addr×Obj))(s:Shared)(σ:St)(H:Hp)(o i:V)(ov iv:Value)(Q:VK),Inv X pins σ H s->RelV o ov->RelV i iv->t o i H Q->
  wpAny (model X.prog X.w) X.A (getItem ov iv) (EP X pins σ Q) X.xe s
theorem Zw4{o i e:Expr}{to ti te:TE}{tget:V->V->Hp->VK->Prop}{tip:TIp}{tset:TSet}{op:Operator}{tpos:Pos}(ho:PE X o to)(hi:PE X i ti)(hg:PGet X tget)(he:PE X e te)(hp:PIp X op tip)(hs:PSet X tset)
  (ha:∀ov iv new,augStore i ov iv new=(do holding [new,ov,iv] (setItem ov iv new);release [new,ov,iv] [];pure .next):=by intros;rfl):PS X (.AugAssign (.Subscript o i tpos) op e pos) (ZY13 to ti te tget tip tset):=by intro pins s σ H D I h;refine wpAny_AugAssign_SubscriptAny (thn (ho pins s σ H _ I h) λov s1 hz0=>?_) ha;obtain⟨x1,H1,I1,r1,q1⟩:=hz0;refine thn (hi pins s1 σ H1 _ I1 q1) λiv s2 hz0=>?_;obtain⟨x2,H2,I2,r2,q2⟩:=hz0;refine thn (hg pins s2 σ H2 x1 x2 ov iv _ I2 r1 r2 q2) λold s3 hz0=>?_;obtain⟨x3,H3,I3,r3,q3⟩:=hz0;refine thn (he pins s3 σ H3 _ I3 q3) λv s4 hz0=>?_;obtain⟨x4,H4,I4,r4,q4⟩:=hz0;refine thn (hp pins s4 σ H4 x3 x4 old v _ I4 r3 r4 q4) λnew s5 hz0=>?_;obtain⟨x5,H5,I5,r5,q5⟩:=hz0;exact thn (hs pins s5 σ H5 x1 x2 x5 ov iv new _ I5 r1 r2 r5 q5) λ_ s6 zz=>by obtain⟨H6,I6,q6⟩:=zz;exact⟨σ,H6,I6,q6⟩
noncomputable def ipI(f:Int->Int->Int):TIp:=λx y H Q=>∃i j,x=.int i/\y=.int j/\Q (.int<|f i j) H
theorem ZT11:PIp X .Add (ipI λi j=>i+j):=by intro pins s σ H x y v u Q I r1 r2 h;obtain⟨i,j,e1,e2,q⟩:=h;subst e1;subst e2;obtain⟨t,rfl⟩:=r1;obtain⟨t',rfl⟩:=r2;exact iadd_int ⟨.int _,H,I.tok _,⟨_,Z⟩,q⟩
theorem ZZ9:PIp X .Sub (ipI λi j=>i-j):=by intro pins s σ H x y v u Q I r1 r2 h;obtain⟨i,j,e1,e2,q⟩:=h;subst e1;subst e2;obtain⟨t,rfl⟩:=r1;obtain⟨t',rfl⟩:=r2;exact isub_int ⟨.int _,H,I.tok _,⟨_,Z⟩,q⟩
noncomputable def ZO12(c:TT)(tb:TS):TS:=λD σ H=>∃W:Nat->St->Hp->Prop,(∃m,W m σ H)/\∀m σ H,W m σ H->
 c σ H λb H1=>if b=true then ∃N:St->Hp->Prop,(∀σ' H',N σ' H'->∃m',m'<m/\W m' σ' H')/\tb {D with nx:=N,ct:=N,bk:=D.nx} σ H1 else D.nx σ H1
theorem Zl9{c:Expr}{body:List Stmt}{tc:TT}{tb:TS}(hp:PassesOwn (model X.prog X.w) X.A X.env X.xe)(hc:PT X c tc)(hb:PSs X body tb):PS X (.While c body [] pos) (ZO12 tc tb):=by
 intro pins s σ H D I h;obtain⟨W,⟨m0,w0⟩,turn⟩:=h;refine wpAny_While (codeAny_whileLoop (λn s'=>∃σ' H',Inv X pins σ' H' s'/\W n σ' H') ?_ m0 ⟨σ,H,I,w0⟩);rintro n s1 ⟨σ1,H1,I1,w1⟩;refine Y1b hp (thn (hc pins s1 σ1 H1 _ I1<|turn n σ1 H1 w1) λb s2 hz0=>?_);obtain⟨H2,I2,q2⟩:=hz0;cases b with
 |true=>
  obtain⟨N,hN,q2⟩:=q2;rw[if_pos Z];refine Y1b hp (thn (hb pins s2 σ1 H2 _ I2 q2) λf s3 q3=>?_);cases f with
  |next=>
   obtain⟨σ3,H3,I3,n3⟩:=q3;obtain⟨m',hm,w3⟩:=hN σ3 H3 n3;exact⟨m',hm,σ3,H3,I3,w3⟩
  |cont=>
   obtain⟨σ3,H3,I3,n3⟩:=q3;obtain⟨m',hm,w3⟩:=hN σ3 H3 n3;exact⟨m',hm,σ3,H3,I3,w3⟩
  |brk=>exact q3
  |ret v=>exact q3
 |false=>
  rw[if_neg Yo];exact Y1Z ⟨σ1,H2,I2,q2⟩
end
structure It where
 go:Nat->Hp->Prop
 yld:Nat->Hp->V->Hp->Prop
 stop:Nat->Hp->Prop
noncomputable def FpOk(X:Cx)(pins:List (Addr×Obj))(H:Hp)(b:Addr):Prop:=
 H b=none/\b≠X.env.locals/\b∉X.fs/\(b∈X.ex\/X.s₀.heap.objs.size<=b)/\(∀x c,X.env.cells.lookup x=some c->c≠b)/\∀p∈X.pn++pins,p.1≠b
theorem Inv.fpOk{b:Addr}(I:Inv X pins σ H s)(hb:s.heap.objs.size<=b)(hn:H' b=none):FpOk X pins H' b:=by
 refine⟨hn,Y0S<|Yf I.lt hb,I.nofs hb,.inr<|Yv I.sz hb,λx c e z=>?_,λp hp z=>?_⟩
 ·obtain⟨v,q⟩:=I.cell x c e;exact absurd (Yf q.lt<|by rwa[z]) (Y0p _)
 ·exact absurd (Yf (Yi (I.pin p hp).1)<|by rwa[z]) (Y0p _)
structure Turn (P:Program) (w:World) (K:PySem.W.Frag) (tg:Expr) (XX:It) (fp:List Addr) (it:Addr) (tn:Nat->Heap->Prop):Prop where
 mem:it∈fp
 obj:∀i h,tn i h->∀b∈fp,∃o,h.get? b=some o/\∀v,o.data≠.cell v
 keep:∀i h h',tn i h->(∀b∈fp,∀o,h.get? b=some o->h'.get? b=some o)->tn i h'
 item:∀(X:Cx),X.prog=P->X.w=w->X.K=K->X.calm=true->∀(i:Nat)(pins:List (Addr×Obj))(s:Shared)(σ:St)(H:Hp)(E:Value->Shared->Prop),Inv X pins σ H s->(∀b∈fp,FpOk X pins H b)->tn i s.heap->XX.go i H->
  wpAny (model P w) X.A (pyNext<|.ref it) (λr s1=>∃u,r=some u/\
   wpAny (model P w) X.A (letOwnedTupleGo tg (.ref it) u) (λ_ s2=>∃x H',Inv X pins σ H' s2/\RelV x u/\XX.yld i H x H'/\tn (i+1) s2.heap/\∀b∈fp,H' b=none) E s1) E s
 done:∀(X:Cx),X.prog=P->X.w=w->X.K=K->X.calm=true->∀(i:Nat)(pins:List (Addr×Obj))(s:Shared)(σ:St)(H:Hp)(E:Value->Shared->Prop),Inv X pins σ H s->(∀b∈fp,FpOk X pins H b)->tn i s.heap->XX.stop i H->
  wpAny (model P w) X.A (pyNext<|.ref it) (λr s1=>r=none/\Inv X pins σ H s1) E s
 self:∀(A:Around)(i:Nat)(s:Shared)(Q:Value->Shared->Prop)(E:Value->Shared->Prop),tn i s.heap->Q (.ref it) s->wpAny (model P w) A (pyIter<|.ref it) Q E s
noncomputable abbrev TI:=St->Hp->(It->Hp->Prop)->Prop
noncomputable def PIE(X:Cx)(pins:List (Addr×Obj))(σ:St)(tg:Expr)(R:It->Hp->Prop)(itv:Value)(s2:Shared):Prop:=
 ∃(it:Addr)(fp:List Addr)(tn:Nat->Heap->Prop)(XX:It)(H':Hp),itv=.ref it/\Inv X pins σ H' s2/\Turn X.prog X.w X.K tg XX fp it tn/\tn 0 s2.heap/\(∀b∈fp,FpOk X pins H' b)/\R XX H'
noncomputable def PI(X:Cx)(tg iter:Expr)(wi:TI):Prop:=
 ∀(pins:List (Addr×Obj))(s:Shared)(σ:St)(H:Hp)(R:It->Hp->Prop),Inv X pins σ H s->wi σ H R->
  wpAny (model X.prog X.w) X.A (eval iter X.env) (λv s1=>wpAny (model X.prog X.w) X.A (pyIter v) (PIE X pins σ tg R) X.xe s1) X.xe s
theorem ZF12{E:Value->Shared->Prop}{s:Shared}{it:Addr}{o:Obj}{n:String}{vs:Array Value}{Q:Unit->Shared->Prop}(ho:s.heap.get? it=some o)(hc:o.cls=.type n)(hd:o.data=.fields vs)
  (hn:["enumerate","zip","dict_itemiterator","dict_reverseitemiterator","odict_iterator","itertools.zip_longest","itertools.pairwise"].contains n=false)(hQ:Q () s):wpAny M A (letOwnedTupleGo tg (.ref it) u) Q E s:=by
 unfold letOwnedTupleGo;cases tg<;>first
  |exact Yh hQ
  | (cases u<;>first
    |exact Yh hQ
    | (refine Yy1 (wpAny_load ho ?_)
       rw[hc,hd];show wpAny M A (if (["enumerate","zip","dict_itemiterator","dict_reverseitemiterator","odict_iterator","itertools.zip_longest","itertools.pairwise"].contains n&&vs[0]? == some (rawInt _))=true then _ else _) Q E s
       rw[if_neg (by intro h;rw[hn,Bool.false_and]at h;cases h)];exact Yh hQ))
noncomputable def Itl(K:PySem.W.Frag)(a:Addr):It:=
 ⟨λi H=>∃xs x,SqL K H a xs/\xs[i]?=some x,λi H x H'=>H'=H/\∀xs,SqL K H a xs->xs[i]?=some x,λi H=>∃xs,SqL K H a xs/\xs.length<=i⟩
noncomputable def Itt(K:PySem.W.Frag)(a:Addr):It:=
 ⟨λi H=>∃xs x,SqT K H a xs/\xs[i]?=some x,λi H x H'=>H'=H/\∀xs,SqT K H a xs->xs[i]?=some x,λi H=>∃xs,SqT K H a xs/\xs.length<=i⟩
noncomputable def Itr(lo:Int)(n:Nat):It:=⟨λi _=>i<n,λi H x H'=>H'=H/\x=.int (lo+i),λi _=>n<=i⟩
theorem Zm4{P:Program}{w:World}{K:PySem.W.Frag}{tg:Expr}(a it:Addr):Turn P w K tg (Itl K a) [it] it (λi h=>h.IsListIter it a i) where
 mem:=B
 obj:=λi h st b hb=>by
  have e:b=it:=by simpa using hb
  subst e;obtain⟨o,e,c,d⟩:=st;exact⟨o,e,λv z=>by rw[d]at z;cases z⟩
 keep:=λi h h' st k=>st.at λo e=>k it B o e
 item:=by
  intro X hP hw hK hc i pins s σ H E I hf st hg;subst hP hw hK;obtain⟨xs,x,hq,hx⟩:=hg;obtain⟨its,rv,p,hz⟩:=I.list hq;obtain⟨u,hu,ru⟩:=rv.get hx;obtain⟨f0,f1,f2,f3,f4,f5⟩:=hf it B;refine wpAny_pyNext_list_item st p.isList (x:=u) (by simpa using hu) λh' st' sb=>?_;have I1:Inv X pins σ H {s with heap:=h'}:=I.turned (t':=s.toks) (λb o hb e=>(sb.2 b hb).trans e) f0 f1 f3 f4 f5
  obtain⟨o,e,c,d⟩:=id st';exact⟨u,Z,ZF12 (s:={s with heap:=h'}) e c d J ⟨x,H,I1,ru,⟨Z,λys hy=>by rwa[I.list_inj hy hq]⟩,st',λb hb=>(hf b hb).1⟩⟩
 done:=by
  intro X hP hw hK hc i pins s σ H E I hf st hg;subst hP hw hK;obtain⟨xs,hq,hx⟩:=hg;obtain⟨its,rv,p,hz⟩:=I.list hq;obtain⟨f0,f1,f2,f3,f4,f5⟩:=hf it B;have hl:=rv.length
  exact wpAny_pyNext_list_end (I.ok.hd hc) st p.isList (by simp;lia) λh' eb=>⟨Z,I.turned (t':=s.toks) (λb o hb e=>eb b o hb e) f0 f1 f3 f4 f5⟩
 self:=λ_ _ _ _ _ st h=>wpAny_pyIter_listiter st h
theorem Zg3{P:Program}{w:World}{K:PySem.W.Frag}{tg:Expr}(a it:Addr):Turn P w K tg (Itt K a) [it] it (λi h=>h.IsTupleIter it a i) where
 mem:=B
 obj:=λi h st b hb=>by
  have e:b=it:=by simpa using hb
  subst e;obtain⟨o,e,c,d⟩:=st;exact⟨o,e,λv z=>by rw[d]at z;cases z⟩
 keep:=λi h h' st k=>st.at λo e=>k it B o e
 item:=by
  intro X hP hw hK hc i pins s σ H E I hf st hg;subst hP hw hK;obtain⟨xs,x,hq,hx⟩:=hg;obtain⟨its,rv,p,hz⟩:=I.tuple hq;obtain⟨u,hu,ru⟩:=rv.get hx;obtain⟨f0,f1,f2,f3,f4,f5⟩:=hf it B;refine wpAny_pyNext_tuple_item st (show s.heap.IsTuple a its.toArray from p) (x:=u) (by simpa using hu) λh' st' sb=>?_;have I1:Inv X pins σ H {s with heap:=h'}:=I.turned (t':=s.toks) (λb o hb e=>(sb.2 b hb).trans e) f0 f1 f3 f4 f5
  obtain⟨o,e,c,d⟩:=id st';exact⟨u,Z,ZF12 (s:={s with heap:=h'}) e c d J ⟨x,H,I1,ru,⟨Z,λys hy=>by rwa[I.tuple_inj hy hq]⟩,st',λb hb=>(hf b hb).1⟩⟩
 done:=by
  intro X hP hw hK hc i pins s σ H E I hf st hg;subst hP hw hK;obtain⟨xs,hq,hx⟩:=hg;obtain⟨its,rv,p,hz⟩:=I.tuple hq;obtain⟨f0,f1,f2,f3,f4,f5⟩:=hf it B;have hl:=rv.length
  exact wpAny_pyNext_tuple_end (I.ok.hd hc) st (show s.heap.IsTuple a its.toArray from p) (by simp;omega) λh' eb=>⟨Z,I.turned (t':=s.toks) (λb o hb e=>eb b o hb e) f0 f1 f3 f4 f5⟩
 self:=λ_ _ _ _ _ st h=>wpAny_pyIter_tupleiter st h
theorem ZB5{P:Program}{w:World}{K:PySem.W.Frag}{tg:Expr}(it:Addr)(lo:Int)(n:Nat):Turn P w K tg (Itr lo n) [it] it (λi h=>IsRangeIter h it (lo+(i:Nat)*1) ((n:Int)-(i:Nat)) 1) where
 mem:=B
 obj:=λi h st b hb=>by
  have e:b=it:=by simpa using hb
  subst e;exact⟨_,st,λv z=>by have z':Data.fields _=Data.cell v:=z;cases z'⟩
 keep:=λi h h' st k=>k it B _ st
 item:=by
  intro X hP hw hK hc i pins s σ H E I hf st hg;subst hP hw hK;obtain⟨f0,f1,f2,f3,f4,f5⟩:=hf it B;have W:=Walks.range (prog:=X.prog) (w:=X.w) (I.ok.hd hc) it lo 1 n
  refine W.item i s _ _ hg st λv h' tk hv st' kk=>?_;obtain⟨t,rfl⟩:=hv;have I1:Inv X pins σ H {s with heap:=h',toks:=tk}:=I.turned (λb o hb e=>kk b o (by simpa using hb) e) f0 f1 f3 f4 f5
  refine⟨_,Z,ZF12 (s:={s with heap:=h',toks:=tk}) (n:="range_iterator") st' Z Z J ⟨.int<|lo+i,H,I1,⟨t,?_⟩,⟨Z,Z⟩,st',λb hb=>(hf b hb).1⟩⟩;rw[Y1p]
 done:=by intro X hP hw hK hc i pins s σ H E I hf st hg;subst hP hw hK;obtain⟨f0,f1,f2,f3,f4,f5⟩:=hf it B;exact wpAny_pyNext_range_end (I.ok.hd hc) st (by have:n<=i:=hg;lia) λh' eb=>⟨Z,I.turned (t':=s.toks) (λb o hb e=>eb b o hb e) f0 f1 f3 f4 f5⟩
 self:=λ_ _ _ _ _ st h=>wpAny_pyIter_rangeiter st h
section
variable{X:Cx}{tg:Expr}
noncomputable def ZN13(K:PySem.W.Frag)(tl:TE):TI:=λσ H R=>tl σ H λx H1=>∃a,x=.ref a/\(∃xs,SqL K H1 a xs)/\R (Itl K a) H1
noncomputable def iTup(K:PySem.W.Frag)(tl:TE):TI:=λσ H R=>tl σ H λx H1=>∃a,x=.ref a/\(∃xs,SqT K H1 a xs)/\R (Itt K a) H1
theorem Zf11{l:Expr}{tl:TE}(hl:PE X l tl):PI X tg l (ZN13 X.K tl):=by
 intro pins s σ H R I h;refine thn (hl pins s σ H _ I h) λv s1 hz0=>?_;obtain⟨x,H1,I1,r1,q1⟩:=hz0;obtain⟨a,e,⟨xs,hq⟩,q⟩:=q1;subst e;cases r1;obtain⟨its,rv,p,hz⟩:=I1.list hq;refine Y1H p.isList ?_;refine⟨s1.heap.objs.size,[s1.heap.objs.size],_,_,H1,Z,I1.kept (t':=s1.toks) λb o e=>Yy5 _ e,Zm4 a _,⟨_,Yk _ Z,Z,Z⟩,λb hb=>?_,q⟩;have e:b=s1.heap.objs.size:=by simpa using hb
 subst e;exact I1.fpOk (Yy6 _) (I1.hok.fresh<|Yy6 _)
theorem Za13{l:Expr}{tl:TE}(hl:PE X l tl):PI X tg l (iTup X.K tl):=by
 intro pins s σ H R I h;refine thn (hl pins s σ H _ I h) λv s1 hz0=>?_;obtain⟨x,H1,I1,r1,q1⟩:=hz0;obtain⟨a,e,⟨xs,hq⟩,q⟩:=q1;subst e;cases r1;obtain⟨its,rv,p,hz⟩:=I1.tuple hq;refine Y2W (show s1.heap.IsTuple a its.toArray from p) ?_;refine⟨s1.heap.objs.size,[s1.heap.objs.size],_,_,H1,Z,I1.kept (t':=s1.toks) λb o e=>Yy5 _ e,Zg3 a _,⟨_,Yk _ Z,Z,Z⟩,λb hb=>?_,q⟩;have e:b=s1.heap.objs.size:=by simpa using hb
 subst e;exact I1.fpOk (Yy6 _) (I1.hok.fresh<|Yy6 _)
theorem ZV5{R:It->Hp->Prop}{E:Value->Shared->Prop}{lo hi:Int}{t u v:Tok}{tk:Nat}(I:Inv X pins σ H s)(h1:-(2^62)<=lo)(h2:lo<2^62)(h3:-(2^62)<=hi)(h4:hi<2^62)
  (q:R (Itr lo (hi-lo).toNat) H):wpAny (model X.prog X.w) X.A (pyIter<|.ref s.heap.objs.size) (PIE X pins σ tg R) E {s with heap:=s.heap.push {cls:=.type "range",data:=.fields #[.int lo t,.int hi u,.int 1 v]},toks:=tk}:=by
 refine wpAny_pyIter_range (IsRange.new ..) (small_one h1 h2 h3 h4) ?_;have I1:Inv X pins σ H {s with heap:=s.heap.push {cls:=.type "range",data:=.fields #[.int lo t,.int hi u,.int 1 v]},toks:=tk}:=I.kept λb o e=>Yy5 _ e
 refine⟨(s.heap.push {cls:=.type "range",data:=.fields #[.int lo t,.int hi u,.int 1 v]}).objs.size,[(s.heap.push {cls:=.type "range",data:=.fields #[.int lo t,.int hi u,.int 1 v]}).objs.size],_,_,H,Z,
  I1.kept (t':=tk) λb o e=>Yy5 _ e,ZB5 _ lo (hi-lo).toNat,?_,λb hb=>?_,q⟩
 ·have e1:lo+((0:Nat):Int)*1=lo:=B;have e2:(((hi-lo).toNat:Nat):Int)-((0:Nat):Int)=Builtin.Range.rangeSize lo hi 1:=by rw[rangeSize_one];split<;>grind
  show IsRangeIter _ _ (lo+((0:Nat):Int)*1) ((((hi-lo).toNat:Nat):Int)-((0:Nat):Int)) 1;rw[e1,e2];exact Yk _ rfl
 ·have e:b=(s.heap.push {cls:=.type "range",data:=.fields #[.int lo t,.int hi u,.int 1 v]}).objs.size:=by simpa using hb
  subst e;exact I1.fpOk (Yy6 _) (I1.hok.fresh<|Yy6 _)
noncomputable def ZD14(ta:TA):TI:=λσ H R=>ta σ H λvs H1=>∃j:Int,vs=[.int j]/\-(2^62)<=j/\j<2^62/\R (Itr 0 j.toNat) H1
noncomputable def ZC14(ta:TA):TI:=λσ H R=>ta σ H λvs H1=>∃i j:Int,vs=[.int i,.int j]/\(-(2^62)<=i/\i<2^62/\-(2^62)<=j/\j<2^62)/\R (Itr i (j-i).toNat) H1
theorem ZR {a:Expr} {ta:TA} {p pos:Pos} (hg:Gl X "range") (hm:X.mg "range"=none) (ha:PA X [a] ta) (hs:starEach [a] X.env=[(false,eval a X.env)]:=by rfl):PI X tg (.Call (.Name "range" p) [a] [] pos) (ZD14 ta):=by
 intro pins s σ H R I h;refine Call_ (Zw2 I hg hm boot_range<|Yy08 (thn (ha pos pins s σ H _ I h) λus s1 hz0=>?_) hs Z);obtain⟨vs,H1,I1,r1,q1⟩:=hz0;obtain⟨j,e,q1,q2,q⟩:=q1;subst e;cases r1 with
 |cons r rr=>
  cases rr;obtain⟨t,rfl⟩:=r;exact call_range_1 (ZV5 I1 O XT q1 q2<|by simpa using q)
theorem Yz4 {a b:Expr} {ta:TA} {p pos:Pos} (hg:Gl X "range") (hm:X.mg "range"=none) (ha:PA X [a,b] ta) (hs:starEach [a,b] X.env=[(false,eval a X.env),(false,eval b X.env)]:=by rfl) (hs2:starEach [b] X.env=[(false,eval b X.env)]:=by rfl):
  PI X tg (.Call (.Name "range" p) [a,b] [] pos) (ZC14 ta):=by
 intro pins s σ H R I h;refine Call_ (Zw2 I hg hm boot_range<|Yy08 (thn (ha pos pins s σ H _ I h) λus s1 zz=>?_) (by rw[hs,hs2])<|by rw[hs2];rfl);obtain⟨vs,H1,I1,r1,q1⟩:=zz;obtain⟨i,j,e,⟨q1,q2,q3,q4⟩,q⟩:=q1;subst e;cases r1 with
 |cons r rr=>
  cases rr with
  |cons r' rr=>
   cases rr;obtain⟨t,rfl⟩:=r;obtain⟨t',rfl⟩:=r';exact call_range_2 (ZV5 I1 q1 q2 q3 q4 q)
noncomputable def tFor(wi:TI)(g:TG)(tb:TS):TS:=λD σ H=>wi σ H λXX H1=>∃W:Nat->Nat->St->Hp->Prop,(∃m,W 0 m σ H1)/\∀i m σ H,W i m σ H->
 (XX.stop i H/\D.nx σ H)\/(XX.go i H/\∃N:St->Hp->Prop,(∀σ' H',N σ' H'->∃m',m'<m/\W (i+1) m' σ' H')/\∀x H',XX.yld i H x H'->g x σ H' λσ2 H2=>tb {D with nx:=N,ct:=N,bk:=D.nx} σ2 H2)
noncomputable def ZI1(fp:List Addr)(h:Heap):List (Addr×Obj):=fp.filterMap λb=>(h.get? b).map λo=>(b,o)
theorem Zz21{b:Addr}{o:Obj}(hb:b∈fp)(e:h.get? b=some o):(b,o)∈ZI1 fp h:=Y1n.mpr ⟨b,hb,by rw[e];rfl⟩
theorem ZS2{p:Addr×Obj}(hp:p∈ZI1 fp h):p.1∈fp/\h.get? p.1=some p.2:=by
 obtain⟨b,hb,e⟩:=Y1n.mp hp;cases q:h.get? b with
 |none=>rw[q]at e;cases e
 |some o=>
  rw[q]at e;have e':(b,o)=p:=Yl e
  subst e';exact⟨hb,q⟩
theorem Inv.pinned(I:Inv X pins σ H s)(hf:∀b∈fp,FpOk X pins H b)(ho:∀b∈fp,∃o,s.heap.get? b=some o/\∀v,o.data≠.cell v):Inv X (pins++ZI1 fp s.heap) σ H s:=
 I.pins_of λp hp=>(Yj.mp hp).elim (λz=>I.pin p<|Yd _ z) λz=>by obtain⟨hb,e⟩:=ZS2 z;obtain⟨f0,f1,f2,_⟩:=hf p.1 hb;obtain⟨o,e',d⟩:=ho p.1 hb;rw[e]at e';cases e';exact⟨e,f0,f1,f2,d⟩
theorem Inv.unpinned{pins pl:List (Addr×Obj)}(I:Inv X (pins++pl) σ H s):Inv X pins σ H s:=I.pins_of λp hp=>I.pin p (Yd _<|Yu _ hp)
theorem ZX{iter:Expr}{body:List Stmt}{wi:TI}{g:TG}{tb:TS}{pos:Pos}(hp:PassesOwn (model X.prog X.w) X.A X.env X.xe)(hc:X.calm=true)(hi:PI X tg iter wi)(hg:PG X tg g)(hb:PSs X body tb)
  (hs:∀x,foldedSetIterable iter X.env x=pure x:=by intro _;rfl):PS X (.For tg iter body [] pos) (tFor wi g tb):=by
 intro pins s σ H D I h;refine wpAny_For (thn (hi pins s σ H _ I h) λv s1 h1=>thn h1 λitv s2 h2=>?_) hs;obtain⟨it,fp,tn,XX,H2,e,I2,T,st2,f2,W,⟨m0,w0⟩,turn⟩:=h2;subst e;have stat:∀{H':Hp},(∀b∈fp,H' b=none)->∀b∈fp,FpOk X pins H' b:=λhn b hb=>⟨hn b hb,(f2 b hb).2⟩
 refine codeAny_forLoop_any (λn s'=>∃i σ' H',Inv X pins σ' H' s'/\tn i s'.heap/\(∀b∈fp,H' b=none)/\W i n σ' H') ?_ m0 ⟨0,σ,H2,I2,st2,λb hb=>(f2 b hb).1,w0⟩;rintro n s3 ⟨i,σ3,H3,I3,st3,fr3,w3⟩;rcases turn i n σ3 H3 w3 with ⟨stop,qn⟩|⟨go,N,hN,step⟩
 ·refine Y1b hp (thn (T.done X Z Z Z hc i pins s3 σ3 H3 X.xe I3 (stat fr3) st3 stop) λr s4 zz=>?_);obtain⟨hr,I4⟩:=zz;subst hr;exact Y1Z ⟨σ3,H3,I4,qn⟩
 ·refine Y1b hp (thn (T.item X Z Z Z hc i pins s3 σ3 H3 X.xe I3 (stat fr3) st3 go) λr s4 hz0=>?_);obtain⟨u,hr,h4⟩:=hz0;subst hr;refine Y1b hp (thn h4 λ_ s5 hz0=>?_);obtain⟨x,H5,I5,r5,y5,st5,fr5⟩:=hz0;have I5':=I5.pinned (stat fr5) (T.obj _ _ st5)
  refine Y1b hp (thn (hg _ s5 σ3 H5 x u _ I5' r5<|step x H5 y5) λ_ s6 hz0=>?_);obtain⟨σ6,H6,I6,q6⟩:=hz0;refine Y1b hp (thn (hb _ s6 σ6 H6 _ I6 q6) λf s7 q7=>?_);have again:∀{σ7:St}{H7:Hp},Inv X (pins++ZI1 fp s5.heap) σ7 H7 s7->N σ7 H7->∃m,m<n/\∃i σ' H',Inv X pins σ' H' s7/\tn i s7.heap/\(∀b∈fp,H' b=none)/\W i m σ' H':=λ{σ7 H7} I7 n7=>by obtain⟨m',hm,w7⟩:=hN σ7 H7 n7;refine⟨m',hm,i+1,σ7,H7,I7.unpinned,T.keep _ _ _ st5 λb hb o e=>(I7.pin (b,o)<|Yd _<|Yd _<|Zz21 hb e).1,λb hb=>?_,w7⟩;obtain⟨o,e,d⟩:=T.obj _ _ st5 b hb;exact(I7.pin (b,o)<|Yd _<|Yd _<|Zz21 hb e).2.1
  cases f with
  |next=>obtain⟨σ7,H7,I7,n7⟩:=q7;exact again I7 n7
  |cont=>obtain⟨σ7,H7,I7,n7⟩:=q7;exact again I7 n7
  |brk=>obtain⟨σ7,H7,I7,q7⟩:=q7;exact⟨σ7,H7,I7.unpinned,q7⟩
  |ret v=>obtain⟨x7,σ7,H7,I7,r7,q7⟩:=q7;exact⟨x7,σ7,H7,I7.unpinned,r7,q7⟩
end
theorem Zr2{K:PySem.W.Frag}{a:Addr}{xs:List V}{g:TG}{tb:TS}{D:Ends}{σ:St}{H:Hp}(Pv:Nat->St->Hp->Prop)(h0:Pv 0 σ H)(hl:∀i σ H,i<=xs.length->Pv i σ H->SqL K H a xs)
  (hs:∀i x σ H,xs[i]?=some x->Pv i σ H->g x σ H λσ2 H2=>tb {D with nx:=Pv<|i+1,ct:=Pv<|i+1,bk:=D.nx} σ2 H2)(hd:∀σ H,Pv xs.length σ H->D.nx σ H):
  ∃W:Nat->Nat->St->Hp->Prop,(∃m,W 0 m σ H)/\∀i m σ H,W i m σ H->
   ((Itl K a).stop i H/\D.nx σ H)\/((Itl K a).go i H/\∃N:St->Hp->Prop,(∀σ' H',N σ' H'->∃m',m'<m/\W (i+1) m' σ' H')/\∀x H',(Itl K a).yld i H x H'->g x σ H' λσ2 H2=>tb {D with nx:=N,ct:=N,bk:=D.nx} σ2 H2):=by
 refine⟨λi m σ H=>m=xs.length-i/\i<=xs.length/\Pv i σ H,⟨xs.length,B,Yr _,h0⟩,?_⟩;rintro i m σ H ⟨rfl,hi,p⟩;have q:=hl i σ H hi p
 by_cases hlt:i<xs.length
 ·refine .inr ⟨⟨xs,xs[i],q,by simp[hlt]⟩,Pv<|i+1,λσ' H' p'=>⟨xs.length-(i+1),XT,Z,hlt,p'⟩,λx H' y=>?_⟩;obtain⟨e,y⟩:=y;subst e;exact hs i x σ _ (y xs q) p
 ·have e:i=xs.length:=O;subst e;exact .inl ⟨⟨xs,q,Yy6 _⟩,hd σ H p⟩
theorem ZB8{K:PySem.W.Frag}{a:Addr}{xs:List V}{g:TG}{tb:TS}{D:Ends}{σ:St}{H:Hp}(Pv:Nat->St->Hp->Prop)(h0:Pv 0 σ H)(hl:∀i σ H,i<=xs.length->Pv i σ H->SqT K H a xs)
  (hs:∀i x σ H,xs[i]?=some x->Pv i σ H->g x σ H λσ2 H2=>tb {D with nx:=Pv<|i+1,ct:=Pv<|i+1,bk:=D.nx} σ2 H2)(hd:∀σ H,Pv xs.length σ H->D.nx σ H):
  ∃W:Nat->Nat->St->Hp->Prop,(∃m,W 0 m σ H)/\∀i m σ H,W i m σ H->
   ((Itt K a).stop i H/\D.nx σ H)\/((Itt K a).go i H/\∃N:St->Hp->Prop,(∀σ' H',N σ' H'->∃m',m'<m/\W (i+1) m' σ' H')/\∀x H',(Itt K a).yld i H x H'->g x σ H' λσ2 H2=>tb {D with nx:=N,ct:=N,bk:=D.nx} σ2 H2):=by
 refine⟨λi m σ H=>m=xs.length-i/\i<=xs.length/\Pv i σ H,⟨xs.length,B,Yr _,h0⟩,?_⟩;rintro i m σ H ⟨rfl,hi,p⟩;have q:=hl i σ H hi p
 by_cases hlt:i<xs.length
 ·refine .inr ⟨⟨xs,xs[i],q,by simp[hlt]⟩,Pv<|i+1,λσ' H' p'=>⟨xs.length-(i+1),XT,Z,hlt,p'⟩,λx H' y=>?_⟩;obtain⟨e,y⟩:=y;subst e;exact hs i x σ _ (y xs q) p
 ·have e:i=xs.length:=XT;subst e;exact .inl ⟨⟨xs,q,Yy6 _⟩,hd σ H p⟩
theorem ZZ{lo:Int}{n:Nat}{g:TG}{tb:TS}{D:Ends}{σ:St}{H:Hp}(Pv:Nat->St->Hp->Prop)(h0:Pv 0 σ H)
  (hs:∀i σ H,i<n->Pv i σ H->g (.int<|lo+i) σ H λσ2 H2=>tb {D with nx:=Pv<|i+1,ct:=Pv<|i+1,bk:=D.nx} σ2 H2)(hd:∀σ H,Pv n σ H->D.nx σ H):
  ∃W:Nat->Nat->St->Hp->Prop,(∃m,W 0 m σ H)/\∀i m σ H,W i m σ H->
   ((Itr lo n).stop i H/\D.nx σ H)\/((Itr lo n).go i H/\∃N:St->Hp->Prop,(∀σ' H',N σ' H'->∃m',m'<m/\W (i+1) m' σ' H')/\∀x H',(Itr lo n).yld i H x H'->g x σ H' λσ2 H2=>tb {D with nx:=N,ct:=N,bk:=D.nx} σ2 H2):=by
 refine⟨λi m σ H=>m=n-i/\i<=n/\Pv i σ H,⟨n,B,Yr _,h0⟩,?_⟩;rintro i m σ H ⟨rfl,hi,p⟩;by_cases hlt:i<n
 ·refine .inr ⟨hlt,Pv<|i+1,λσ' H' p'=>⟨n-(i+1),XT,Z,hlt,p'⟩,λx H' y=>?_⟩;obtain⟨e,y⟩:=y;subst e y;exact hs i σ _ hlt p
 ·have e:i=n:=O;subst e;exact .inl ⟨Yy6 _,hd σ H p⟩
noncomputable abbrev R2:=V->V->Hp->VK->Prop
noncomputable def OpR(X:Cx)(f:Value->Value->Sem Value)(r:R2):Prop:=
 ∀(pins:List (Addr×Obj))(s:Shared)(σ:St)(H:Hp)(x y:V)(v u:Value)(Q:VK),Inv X pins σ H s->RelV x v->RelV y u->r x y H Q->
  wpAny (model X.prog X.w) X.A (f v u) (EP X pins σ Q) X.xe s
noncomputable def UnR(X:Cx)(f:Value->Sem Value)(r:V->Hp->VK->Prop):Prop:=
 ∀(pins:List (Addr×Obj))(s:Shared)(σ:St)(H:Hp)(x:V)(v:Value)(Q:VK),Inv X pins σ H s->RelV x v->r x H Q->
  wpAny (model X.prog X.w) X.A (f v) (EP X pins σ Q) X.xe s
noncomputable def Zz12(X:Cx)(f:Value)(r:List V->Hp->VK->Prop):Prop:=
 ∀(pins:List (Addr×Obj))(s:Shared)(σ:St)(H:Hp)(xs:List V)(us:List Value)(Q:VK),Inv X pins σ H s->Vals xs us->r xs H Q->
  wpAny (model X.prog X.w) X.A (call f us) (EP X pins σ Q) X.xe s
noncomputable def tOp(r:R2)(ta tb:TE):TE:=λσ H Q=>ta σ H λx H1=>tb σ H1 λy H2=>r x y H2 Q
noncomputable def tUn(r:V->Hp->VK->Prop)(ta:TE):TE:=λσ H Q=>ta σ H λx H1=>r x H1 Q
noncomputable def rI(C:Int->Int->Prop)(g:Int->Int->V):R2:=λx y H Q=>∃i j,x=.int i/\y=.int j/\C i j/\Q (g i j) H
noncomputable def rI0(g:Int->Int->V):R2:=λx y H Q=>∃i j,x=.int i/\y=.int j/\Q (g i j) H
noncomputable def rU(g:Int->V):V->Hp->VK->Prop:=λx H Q=>∃i,x=.int i/\Q (g i) H
section
variable{X:Cx}{a b:Expr}{ta tb:TE}{pos:Pos}
theorem binT(ha:PE X a ta)(hb:PE X b tb){pins:List (Addr×Obj)}{s:Shared}{σ:St}{H:Hp}{R:V->V->Hp->Prop}(I:Inv X pins σ H s)
  (h:ta σ H λx H1=>tb σ H1 λy H2=>R x y H2){Q:Value->Shared->Prop}{f:Value->Value->Sem Value}
  (hf:∀v u s2 x y H2,Inv X pins σ H2 s2->RelV x v->RelV y u->R x y H2->wpAny (model X.prog X.w) X.A (f v u) Q X.xe s2):
  wpAny (model X.prog X.w) X.A (eval a X.env) (λv s₁=>wpAny (model X.prog X.w) X.A (eval b X.env) (λu s₂=>wpAny (model X.prog X.w) X.A (f v u) Q X.xe s₂) X.xe s₁) X.xe s:=by refine thn (ha pins s σ H _ I h) λv s1 hz0=>?_;obtain⟨x,H1,I1,r1,q1⟩:=hz0;refine thn (hb pins s1 σ H1 _ I1 q1) λu s2 hz0=>?_;obtain⟨y,H2,I2,r2,q2⟩:=hz0;exact hf v u s2 x y H2 I2 r1 r2 q2
theorem Zn(ho:OpR X (binaryOp op) r)(ha:PE X a ta)(hb:PE X b tb):PE X (.BinOp a op b pos) (tOp r ta tb):=by intro pins s σ H Q I h;exact wpAny_BinOp (binT ha hb I h λv u s2 x y H2 I2 rx ry q=>ho pins s2 σ H2 x y v u Q I2 rx ry q)
theorem ZL13{op:UnaryOp}{r:V->Hp->VK->Prop}(ho:UnR X (unaryOp op) r)(ha:PE X a ta):PE X (.UnaryOp op a pos) (tUn r ta):=by intro pins s σ H Q I h;exact UnaryOp_ (thn (ha pins s σ H _ I h) λv s1 zz=>by obtain⟨x,H1,I1,r1,q1⟩:=zz;exact ho pins s1 σ H1 x v Q I1 r1 q1)
theorem opI{f:Value->Value->Sem Value}{C:Int->Int->Prop}{g:Int->Int->Int}
  (rule:∀(i j:Int)(t u:Tok)(s:Shared)(Q:Value->Shared->Prop)(E:Value->Shared->Prop),C i j->Q (.int (g i j) s.toks) {s with toks:=s.toks+1}->wpAny (model X.prog X.w) X.A (f (.int i t)<|.int j u) Q E s):
  OpR X f (rI C λi j=>.int<|g i j):=by intro pins s σ H x y v u Q I rx ry h;obtain⟨i,j,rfl,rfl,hc,q⟩:=h;obtain⟨t,rfl⟩:=rx;obtain⟨t',rfl⟩:=ry;exact rule i j t t' s _ _ hc ⟨.int<|g i j,H,I.tok _,⟨_,Z⟩,q⟩
theorem opI0{f:Value->Value->Sem Value}{g:Int->Int->Int}
  (rule:∀(i j:Int)(t u:Tok)(s:Shared)(Q:Value->Shared->Prop)(E:Value->Shared->Prop),Q (.int (g i j) s.toks) {s with toks:=s.toks+1}->wpAny (model X.prog X.w) X.A (f (.int i t)<|.int j u) Q E s):
  OpR X f (rI0 λi j=>.int<|g i j):=by intro pins s σ H x y v u Q I rx ry h;obtain⟨i,j,rfl,rfl,q⟩:=h;obtain⟨t,rfl⟩:=rx;obtain⟨t',rfl⟩:=ry;exact rule i j t t' s _ _ ⟨.int<|g i j,H,I.tok _,⟨_,Z⟩,q⟩
theorem opB0{f:Value->Value->Sem Value}{g:Int->Int->Bool}
  (rule:∀(i j:Int)(t u:Tok)(s:Shared)(Q:Value->Shared->Prop)(E:Value->Shared->Prop),Q (.bool<|g i j) s->wpAny (model X.prog X.w) X.A (f (.int i t)<|.int j u) Q E s):
  OpR X f (rI0 λi j=>.bl<|g i j):=by intro pins s σ H x y v u Q I rx ry h;obtain⟨i,j,rfl,rfl,q⟩:=h;obtain⟨t,rfl⟩:=rx;obtain⟨t',rfl⟩:=ry;exact rule i j t t' s _ _ ⟨.bl<|g i j,H,I,Z,q⟩
noncomputable def CDiv(i j:Int):Prop:=0<j/\j<1073741824
noncomputable def CPow(i j:Int):Prop:=0<=j/\j<=1000000/\i.natAbs<2^64
noncomputable def CMul(i j:Int):Prop:=(-(2^64)<i/\i<2^64)\/(-(2^64)<j/\j<2^64)
theorem CMul.ok(h:CMul i j):IntMulOk i j:=by
 rcases h with ⟨h1,h2⟩|⟨h1,h2⟩
 ·exact .of_left (intBits_le_64 h1 h2)
 ·exact .of_right (intBits_le_64 h1 h2)
theorem Zc1:OpR X (binaryOp .Add) (rI0 λi j=>.int (i+j)):=opI0 λ_ _ _ _ _ _ _ q=>add_int q
theorem Zz22:OpR X (binaryOp .Sub) (rI0 λi j=>.int (i-j)):=opI0 λ_ _ _ _ _ _ _ q=>sub_int q
theorem Zk2:OpR X (binaryOp .Mult) (rI CMul λi j=>.int (i*j)):=opI λ_ _ _ _ _ _ _ hc q=>mul_int q hc.ok
theorem Zg1:OpR X (binaryOp .FloorDiv) (rI CDiv λi j=>.int (i/j)):=opI λi j _ _ _ _ _ hc q=>by
 have h1:(0:Int)<j:=hc.1;have h2:j<1073741824:=hc.2
 exact floordiv_int O (by rwa[Int.fdiv_eq_ediv_of_nonneg i O]) (.inl<|PyProof.noPylong_small XT)
theorem ZM:OpR X (binaryOp .Mod) (rI (λ_ j=>0<j) λi j=>.int (i%j)):=opI λi j _ _ _ _ _ hc q=>by have h1:(0:Int)<j:=hc;exact mod_int' XT (by rwa[Int.fmod_eq_emod_of_nonneg i O])
theorem Zp3:OpR X (binaryOp .Pow) (rI CPow λi j=>.int (i^j.toNat)):=opI λ_ _ _ _ _ _ _ hc q=>pow_int_small hc.1 hc.2.1 hc.2.2 q
theorem unI{f:Value->Sem Value}{g:Int->Int}
  (rule:∀(i:Int)(t:Tok)(s:Shared)(Q:Value->Shared->Prop)(E:Value->Shared->Prop),Q (.int (g i) s.toks) {s with toks:=s.toks+1}->wpAny (model X.prog X.w) X.A (f<|.int i t) Q E s):
  UnR X f (rU λi=>.int<|g i):=by intro pins s σ H x v Q I rx h;obtain⟨i,rfl,q⟩:=h;obtain⟨t,rfl⟩:=rx;exact rule i t s _ _ ⟨.int<|g i,H,I.tok _,⟨_,Z⟩,q⟩
theorem ZL10:UnR X (unaryOp .USub) (rU λi=>.int (-i)):=unI λ_ _ _ _ _ q=>neg_int q
end
noncomputable def scal:V->V->Bool
 | .non,.non=>true | .non,.int _=>true | .int _,.non=>true | .non,.bl _=>true | .bl _,.non=>true | .non,.str _=>true | .str _,.non=>true
 | .int _,.int _=>true | .bl _,.bl _=>true | .str _,.str _=>true | .byt _,.byt _=>true
 | .int _,.str _=>true | .str _,.int _=>true | .bl _,.str _=>true | .str _,.bl _=>true
 |_,_=>false
noncomputable def rEq:R2:=λx y H Q=>scal x y=true/\Q (.bl<|decide<|x=y) H
noncomputable def rNe:R2:=λx y H Q=>scal x y=true/\Q (.bl<|!decide (x=y)) H
theorem Zz:decide (V.int i=V.int j)=(i == j):=by rw[Y0I];simp
theorem Zk12:decide (V.bl i=V.bl j)=(i == j):=by rw[Y0I];simp
theorem ZI8:decide (V.str i=V.str j)=(i == j):=by rw[Y0I];simp
theorem ZJ8:decide (V.byt i=V.byt j)=(i.toList == j.toList):=by rw[Y0I];cases i;cases j;simp
section
variable{X:Cx}{a b c:Expr}{ta tb tc:TE}{pos:Pos}
theorem ZO{k k':Bool}(I:Inv X pins σ H s)(q:Q (.bl k) H)(e:k=k'):EP X pins σ Q (.bool k') s:=by subst e;exact⟨.bl k,H,I,Z,q⟩
theorem Zz32:OpR X (compareOp .Eq) rEq:=by
 intro pins s σ H x y v u Q I rx ry h;obtain⟨hs,q⟩:=h;cases x with
 |non=>
  cases rx;cases y with
  |non=>cases ry;exact PySem.EqNone.eq_none_none (ZO I q B)
  |bl j=>cases ry;exact PySem.EqNone.eq_none_bool (ZO I q B)
  |int j=>obtain⟨t',rfl⟩:=ry;exact PySem.EqNone.eq_none_int (ZO I q B)
  |str j=>obtain⟨t',rfl⟩:=ry;exact PySem.EqNone.eq_none_str (ZO I q B)
  |_=>exact absurd (show false=true from hs) Yo
 |bl i=>
  cases rx;cases y with
  |non=>cases ry;exact PySem.EqNone.eq_bool_none (ZO I q B)
  |bl j=>cases ry;exact eq_bool (ZO I q Zk12)
  |str j=>obtain⟨t',rfl⟩:=ry;exact PySem.EqMixed.eq_bool_str (ZO I q B)
  |_=>exact absurd (show false=true from hs) Yo
 |int i=>
  obtain⟨t,rfl⟩:=rx;cases y with
  |non=>cases ry;exact PySem.EqNone.eq_int_none (ZO I q B)
  |int j=>obtain⟨t',rfl⟩:=ry;exact eq_int (ZO I q Zz)
  |str j=>obtain⟨t',rfl⟩:=ry;exact PySem.EqMixed.eq_int_str (ZO I q B)
  |_=>exact absurd (show false=true from hs) Yo
 |str i=>
  obtain⟨t,rfl⟩:=rx;cases y with
  |non=>cases ry;exact PySem.EqNone.eq_str_none (ZO I q B)
  |bl j=>cases ry;exact PySem.EqMixed.eq_str_bool (ZO I q B)
  |int j=>obtain⟨t',rfl⟩:=ry;exact PySem.EqMixed.eq_str_int (ZO I q B)
  |str j=>obtain⟨t',rfl⟩:=ry;exact eq_str (ZO I q ZI8)
  |_=>exact absurd (show false=true from hs) Yo
 |byt i=>
  obtain⟨t,rfl⟩:=rx;cases y with
  |byt j=>obtain⟨t',rfl⟩:=ry;exact PySem.W.eq_bytes (ZO I q ZJ8)
  |_=>exact absurd (show false=true from hs) Yo
 |_=>cases y<;>exact absurd (show false=true from hs) Yo
theorem Zz86:OpR X (compareOp .NotEq) rNe:=by
 intro pins s σ H x y v u Q I rx ry h;obtain⟨hs,q⟩:=h;cases x with
 |non=>
  cases rx;cases y with
  |non=>cases ry;exact PySem.EqNone.ne_none_none (ZO I q B)
  |bl j=>cases ry;exact PySem.EqNone.ne_none_bool (ZO I q B)
  |int j=>obtain⟨t',rfl⟩:=ry;exact PySem.EqNone.ne_none_int (ZO I q B)
  |str j=>obtain⟨t',rfl⟩:=ry;exact PySem.EqNone.ne_none_str (ZO I q B)
  |_=>exact absurd (show false=true from hs) Yo
 |bl i=>
  cases rx;cases y with
  |non=>cases ry;exact PySem.EqNone.ne_bool_none (ZO I q B)
  |bl j=>cases ry;exact ne_bool (ZO I q<|YX not Zk12)
  |str j=>obtain⟨t',rfl⟩:=ry;exact PySem.EqMixed.ne_bool_str (ZO I q B)
  |_=>exact absurd (show false=true from hs) Yo
 |int i=>
  obtain⟨t,rfl⟩:=rx;cases y with
  |non=>cases ry;exact PySem.EqNone.ne_int_none (ZO I q B)
  |int j=>obtain⟨t',rfl⟩:=ry;exact ne_int (ZO I q<|YX not Zz)
  |str j=>obtain⟨t',rfl⟩:=ry;exact PySem.EqMixed.ne_int_str (ZO I q B)
  |_=>exact absurd (show false=true from hs) Yo
 |str i=>
  obtain⟨t,rfl⟩:=rx;cases y with
  |non=>cases ry;exact PySem.EqNone.ne_str_none (ZO I q B)
  |bl j=>cases ry;exact PySem.EqMixed.ne_str_bool (ZO I q B)
  |int j=>obtain⟨t',rfl⟩:=ry;exact PySem.EqMixed.ne_str_int (ZO I q B)
  |str j=>obtain⟨t',rfl⟩:=ry;exact ne_str (ZO I q<|YX not ZI8)
  |_=>exact absurd (show false=true from hs) Yo
 |byt i=>
  obtain⟨t,rfl⟩:=rx;cases y with
  |byt j=>obtain⟨t',rfl⟩:=ry;exact PySem.W.ne_bytes (ZO I q<|YX not ZJ8)
  |_=>exact absurd (show false=true from hs) Yo
 |_=>cases y<;>exact absurd (show false=true from hs) Yo
theorem Zr7:OpR X (compareOp .Lt) (rI0 λi j=>.bl (decide (i<j))):=opB0 λ_ _ _ _ _ _ _ q=>lt_int q
theorem Ze8:OpR X (compareOp .LtE) (rI0 λi j=>.bl (decide (i<=j))):=opB0 λ_ _ _ _ _ _ _ q=>le_int q
theorem Zf8:OpR X (compareOp .Gt) (rI0 λi j=>.bl (decide (j<i))):=opB0 λ_ _ _ _ _ _ _ q=>gt_int q
theorem Zm14:OpR X (compareOp .GtE) (rI0 λi j=>.bl (decide (j<=i))):=opB0 λ_ _ _ _ _ _ _ q=>ge_int q
theorem Zp11:OpR X (compareOp .Is) (λx y H Q=>y=.non/\Q (.bl (decide (x=.non))) H):=by
 intro pins s σ H x y v u Q I rx ry h;obtain⟨rfl,q⟩:=h;cases ry;refine is_none_gen (ZO I q ?_);cases x<;>first
  | (cases rx;rfl)
  | (obtain⟨t,rfl⟩:=rx;rfl)
theorem ZS3:OpR X (compareOp .NotIn) (λx y H Q=>∃i j,x=.str i/\y=.str j/\Q (.bl (!(!(Builtin.Str.occurrences j i 0 j.length 1).isEmpty))) H):=by intro pins s σ H x y v u Q I rx ry h;obtain⟨i,j,rfl,rfl,q⟩:=h;obtain⟨t,rfl⟩:=rx;obtain⟨t',rfl⟩:=ry;exact notIn_str (ZO I q Z)
theorem Zq(b:Expr)(h:op≠.In:=by decide)(h2:op≠.NotIn:=by decide):behindInMarks op b=false:=by
 have e1:(op == CmpOp.In)=false:=by cases op<;>first|rfl|exact absurd rfl h
 have e2:(op == CmpOp.NotIn)=false:=by cases op<;>first|rfl|exact absurd rfl h2
 cases b<;>simp[behindInMarks,e1,e2]
theorem ZN1(ho:OpR X (compareOp op) r)(ha:PE X a ta)(hb:PE X b tb)(hm:behindInMarks op b=false):PE X (.Compare a [op] [b] pos) (tOp r ta tb):=by intro pins s σ H Q I h;exact wpAny_Compare1 (binT ha hb I h λv u s2 x y H2 I2 rx ry q=>ho pins s2 σ H2 x y v u Q I2 rx ry q) hm
noncomputable def ZF13(t:TE):TT:=λσ H Q=>t σ H λx H'=>∃k,x=.bl k/\Q k H'
theorem Zi{op:CmpOp}{r:R2}(ho:OpR X (compareOp op) r)(ha:PE X a ta)(hb:PE X b tb)(hm:behindInMarks op b=false):PT X (.Compare a [op] [b] pos) (ZF13 (tOp r ta tb)):=by
 intro pins s σ H Q I h;refine wpAny_isTrue_Compare1 (thn (ha pins s σ H _ I h) λv s1 ⟨x,H1,I1,r1,q1⟩=>thn (hb pins s1 σ H1 _ I1 q1) λu s2 ⟨y,H2,I2,r2,q2⟩=>
  thn (ho pins s2 σ H2 x y v u _ I2 r1 r2 q2) λc s3 ⟨z,H3,I3,r3,k,e,q3⟩=>?_) hm
 subst e;cases r3;exact Y0J ⟨H3,I3,q3⟩
noncomputable def ZS10(r r':R2)(ta tb tc:TE):TE:=λσ H Q=>ta σ H λx H1=>tb σ H1 λy H2=>r x y H2 λz H3=>∃k,z=.bl k/\
 (if k=true then tc σ H3 λw' H4=>r' y w' H4 Q else Q (.bl false) H3)
theorem Zw9{op op':CmpOp}{r r':R2}(ho:OpR X (compareOp op) r)(ho':OpR X (compareOp op') r')(ha:PE X a ta)(hb:PE X b tb)(hc:PE X c tc)
  (hm:lastMarks [op,op'] [b,c]=false:=by with_unfolding_all rfl):PE X (.Compare a [op,op'] [b,c] pos) (ZS10 r r' ta tb tc):=by
 intro pins s σ H Q I h;refine Compare_chain (thn (ha pins s σ H _ I h) λv s1 ⟨x,H1,I1,r1,q1⟩=>chain_link (thn (hb pins s1 σ H1 _ I1 q1) λu s2 ⟨y,H2,I2,r2,q2⟩=>
  thn (ho pins s2 σ H2 x y v u _ I2 r1 r2 q2) λd s3 ⟨z,H3,I3,r3,k,e,q3⟩=>?_)) hm
 subst e;cases r3;refine Y0J ?_;cases k with
 |false=>exact ite_ff ⟨.bl false,H3,I3,Z,q3⟩
 |true=>exact ite_tt (chain_last<|thn (hc pins s3 σ H3 _ I3 q3) λw' s4 zz=>by obtain⟨z',H4,I4,r4,q4⟩:=zz;exact ho' pins s4 σ H4 y z' u w' Q I4 r2 r4 q4)
theorem ZO2{op op':CmpOp}{r r':R2}(ho:OpR X (compareOp op) r)(ho':OpR X (compareOp op') r')(ha:PE X a ta)(hb:PE X b tb)(hc:PE X c tc)
  (hm:lastMarks [op,op'] [b,c]=false:=by with_unfolding_all rfl):PT X (.Compare a [op,op'] [b,c] pos) (ZF13<|ZS10 r r' ta tb tc):=by
 intro pins s σ H Q I h;refine isTrue_chain (thn (ha pins s σ H _ I h) λv s1 ⟨x,H1,I1,r1,q1⟩=>test_link (thn (hb pins s1 σ H1 _ I1 q1) λu s2 ⟨y,H2,I2,r2,q2⟩=>
  thn (ho pins s2 σ H2 x y v u _ I2 r1 r2 q2) λd s3 ⟨z,H3,I3,r3,k,e,q3⟩=>?_)) hm
 subst e;cases r3;refine Y0J ?_;cases k with
 |false=>
  obtain⟨k',e',q'⟩:=q3;cases e';exact ite_ff ⟨H3,I3,q'⟩
 |true=>
  refine ite_tt (test_last<|thn (hc pins s3 σ H3 _ I3 q3) λw' s4 zz=>?_);obtain⟨z',H4,I4,r4,q4⟩:=zz;refine thn (ho' pins s4 σ H4 y z' u w' _ I4 r2 r4 q4) λd' s5 hz0=>?_;obtain⟨z2,H5,I5,r5,k2,e2,q5⟩:=hz0;subst e2;cases r5;exact Y0J ⟨H5,I5,q5⟩
theorem Zz14:(sizeLine:Nat)<2^63:=by rw[Y1N];decide
theorem ZU:OpR X (binaryOp .Add) (λx y H Q=>∃i j,x=.str i/\y=.str j/\i.length+j.length<=sizeLine/\Q (.str (i++j)) H):=by intro pins s σ H x y v u Q I rx ry h;obtain⟨i,j,rfl,rfl,hz,q⟩:=h;obtain⟨t,rfl⟩:=rx;obtain⟨t',rfl⟩:=ry;exact add_str (λt' tk=>⟨.str<|i++j,H,I.tok _,⟨_,Z⟩,q⟩) hz
theorem Ze3{us:List Value}(r:Vals [x] us):∃u,us=[u]/\RelV x u:=by
 cases r with
 |cons r1 r2=>cases r2;exact⟨_,Z,r1⟩
theorem ZB12{us:List Value}(r:Vals [x,y] us):∃u w',us=[u,w']/\RelV x u/\RelV y w':=by
 cases r with
 |cons r1 r2=>
  cases r2 with
  |cons r3 r4=>cases r4;exact⟨_,_,Z,r1,r3⟩
theorem Zb2 (hc:X.calm=true):Zz12 X (.builtin "max") (λxs H Q=>∃i j,xs=[.int i,.int j]/\Q (.int (if j>i then j else i)) H):=by
 intro pins s σ H xs us Q I r h;obtain⟨i,j,rfl,q⟩:=h;obtain⟨u,w',rfl,⟨t,rfl⟩,⟨t',rfl⟩⟩:=ZB12 r;refine max_two_ints (I.ok.hd hc) λh' tk k=>⟨_,H,I.kept k,?_,q⟩;by_cases hj:j>i
 ·rw[if_pos hj,if_pos hj];exact⟨_,Z⟩
 ·rw[if_neg hj,if_neg hj];exact⟨_,Z⟩
theorem Za2 (hc:X.calm=true):Zz12 X (.builtin "min") (λxs H Q=>∃i j,xs=[.int i,.int j]/\Q (.int (if j<i then j else i)) H):=by
 intro pins s σ H xs us Q I r h;obtain⟨i,j,rfl,q⟩:=h;obtain⟨u,w',rfl,⟨t,rfl⟩,⟨t',rfl⟩⟩:=ZB12 r;refine min_two_ints (I.ok.hd hc) λh' tk k=>⟨_,H,I.kept k,?_,q⟩;by_cases hj:j<i
 ·rw[if_pos hj,if_pos hj];exact⟨_,Z⟩
 ·rw[if_neg hj,if_neg hj];exact⟨_,Z⟩
theorem Zc4:Zz12 X (.type "str") (λxs H Q=>∃i,xs=[.int i]/\i.natAbs.log2<1920/\Q (.str (toString i)) H):=by intro pins s σ H xs us Q I r h;obtain⟨i,rfl,hz,q⟩:=h;obtain⟨u,rfl,t,rfl⟩:=Ze3 r;exact PySem.P.str_of_int hz ⟨.str _,H,I.tok _,⟨_,Z⟩,q⟩
end
structure ObjM (h:Heap) (x dx C:Addr) (mA:Str->Option Value):Prop where
 obj:h.get? x=some (PySem.W.instObj C dx)
 ns:h.Ns1 dx mA
 ne:dx≠x
theorem Zx7{h:Heap}{mA:Str->Option Value}(n:h.Ns1 dx mA):∃od,h.get? dx=some od/\∀name,PySem.W.lookIn name od=some (mA name):=by
 obtain⟨o,es,ep,ho,hd,hk,_,hm⟩:=n;refine⟨o,ho,λname=>?_⟩;have e:=hm name
 unfold nsFind findBy at e;rw[<-Array.find?_toList]at e;unfold PySem.W.lookIn;rw[hd];dsimp only;split
 ·rename_i y q;rw[q]at e;exact YX some e
 ·rename_i q;rw[q]at e;have a:es.toList.any (·.refKey)=false:=by rw[List.any_eq_false];intro y hy;obtain⟨z,t,hkey⟩:=hk y (Array.mem_toList_iff.mp hy);simp[DictEntry.refKey,hkey]
  have a':¬es.toList.any (·.refKey)=true:=by rw[a];exact Yo
  rw[if_neg a'];exact YX some e
theorem ObjM.look{mA:Str->Option Value}(I:ObjM h x dx C mA):∃od,PySem.W.InstAt h x (PySem.W.instObj C dx) C (some od)/\∀name,PySem.W.lookIn name od=some (mA name):=
 let ⟨od,ho,hl⟩:=Zx7 I.ns
 ⟨od,⟨I.obj,Z,Z,ho⟩,hl⟩
section
variable{prog:Program}{w:World}{A:Around}{E:Value->Shared->Prop}{s:Shared}{K:PySem.W.Frag}{x dx C f:Addr}{mA:Str->Option Value}{name:Str}{v:Value}
theorem Zz012{Q:Value->Shared->Prop}(X:K.In s.heap)(I:ObjM s.heap x dx C mA)(hg:PySem.W.plainGet K C name=true)(hh:PySem.W.hasDictIn K C=true)
  (ha:PySem.W.findIn K (.ref C) name=some none)(hv:mA name=some v)(hv':PySem.W.handedIn v=true)(h:Q v {s with toks:=s.toks+1}):
  wpAny (model prog w) A (getAttr (.ref x) name expr) Q E s:=by obtain⟨od,XX,hl⟩:=I.look;exact PySem.W.get_value X XX (Y2n hg).1 (PySem.W.findObj_own hh ha Z<|by rw[hl,hv]) hv' h
theorem Zz810{Q:Value×List Value->Shared->Prop}(X:K.In s.heap)(I:ObjM s.heap x dx C mA)(hg:PySem.W.plainGet K C name=true)
  (hf:PySem.W.findIn K (.ref C) name=some (some<|.ref f))(ht:PySem.W.isFn K (.ref f)=true)(hv:mA name=none)(h:Q (.ref f,[.ref x]) s):
  wpAny (model prog w) A (getMethod (.ref x) name pl) Q E s:=by obtain⟨od,XX,hl⟩:=I.look;exact PySem.W.method_fn X XX (Y2n hg).1 (Y2n hg).2 hf (Y1d.mp ht) (by show(PySem.W.lookIn name od).map (·.isSome)=some false;rw[hl,hv];rfl) h
theorem Zz011{Q:Unit->Shared->Prop}(X:K.In s.heap)(I:ObjM s.heap x dx C mA)
  (hs:PySem.W.findIn K (.ref C) "__setattr__"=some (some<|.builtin "object.__setattr__"))(hp:PySem.W.plainOver K C=true)(ht:PySem.W.takerIn K C name=some none)(hh:PySem.W.hasDictIn K C=true)
  (hw:PySem.Within mA ns)(hsz:ns.length<=sizeLine)
  (h:∀h',ObjM h' x dx C (λy=>if y=name then some v else mA y)->Heap.SameBut dx s.heap h'->Q () {s with heap:=h',toks:=s.toks+2}):
  wpAny (model prog w) A (setAttr (.ref x) name v) Q E s:=by
 obtain⟨od,XX,hl⟩:=I.look;refine PySem.W.set_plain X XX hs (PySem.W.osa_open (s:={s with toks:=s.toks+1}) (r:=none) X XX hp ht λb=>?_);obtain⟨cd,hc,hd'⟩:=PySem.W.any_some hh;have hx:s.heap.get? x=some ⟨.ref C,some dx,.plain,#[]⟩:=I.obj
 refine Yy1 (Yh<|Yy1<|Yy1<|wpAny_loadPart hx<|Yy1<|PySem.W.Looks.here (s:={s with toks:=s.toks+1}) (PySem.W.looks_clsIn X hc) ?_);rw[hd'];refine Yh (a:=some dx) (Yy1<|Yh<|Yy1 ?_);refine wpAny_nsSet1 (s:={s with toks:=s.toks+1}) I.ns λh' hn2 hs2=>?_;obtain⟨oD,esD,epD,hoD,hdD,hcD⟩:=hn2.count (PySem.Within.cons name v hw);refine Yy1 (wpAny_lookBehind hoD (by rw[hdD];exact pastItsLine_dict<|Yv hcD<|by rw[Yq];lia) ?_);exact Yh (h _ ⟨(hs2.2 _<|YU I.ne).trans I.obj,hn2,I.ne⟩ hs2)
theorem ZP9{R:Result->Shared->Prop}{vs:List Value}{kw:List (Str×Value)}(X:K.In s.heap)(hm:PySem.W.makesIn K C=true)
  (hi:PySem.W.findIn K (.ref C) "__init__"=some (some<|.ref f))(hf:PySem.W.typeIn K (.ref f)=some (.type "function"))
  (h:codeAny (model prog w) (A.under<|.builtin "type.__call__" ⟨.ref C::vs,kw⟩) (.call (.ref f) ⟨.ref (s.heap.objs.size+1)::vs,kw⟩) (PySem.W.InitBack (s.heap.objs.size+1) R)
   {s with heap:=(s.heap.push PySem.W.emptyDict).push (PySem.W.instObj C s.heap.objs.size)}):
  codeAny (model prog w) A (.call (.ref C) ⟨vs,kw⟩) R s:=by obtain⟨hh,g,d,t,os⟩:=s;exact PySem.W.make_core (PySem.W.makes_of X hm) (PySem.W.looks_findIn X hi) (λself=>PySem.W.bind_fn X self hf) (.inl Z) h
end
noncomputable def putF(f:Str)(v:V):List (Str×V)->List (Str×V)
 |[]=>[(f,v)]
 | (g,x)::r=>if g=f then (g,v)::r else (g,x)::putF f v r
theorem Zz01(f g:Str)(v:V):∀fs:List (Str×V),(putF f v fs).lookup g=if g=f then some v else fs.lookup g
 |[]=>by
  show List.lookup g [(f,v)]=_;by_cases h:g=f
  ·have hb:(g == f)=true:=Y1d.mpr h;simp only[List.lookup,hb,if_pos h]
  ·have hb:(g == f)=false:=Y0C.mpr h;simp only[List.lookup,hb,if_neg h]
 | (k,x)::r=>by
  have ih:=Zz01 f g v r;rw[show putF f v ((k,x)::r)=(if k=f then (k,v)::r else (k,x)::putF f v r) from Z];by_cases hk:k=f
  ·rw[if_pos hk];by_cases h:g=k
   ·have hb:(g == k)=true:=Y1d.mpr h;simp only[List.lookup,hb,if_pos (h.trans hk)]
   ·have hb:(g == k)=false:=Y0C.mpr h;simp only[List.lookup,hb,if_neg λe:g=f=>h (e.trans hk.symm)]
  ·rw[if_neg hk];by_cases h:g=k
   ·have hb:(g == k)=true:=Y1d.mpr h;simp only[List.lookup,hb,if_neg λe:g=f=>hk (h.symm.trans e)]
   ·have hb:(g == k)=false:=Y0C.mpr h;simp only[List.lookup,hb];exact ih
theorem ZX2(f:Str)(v:V):∀fs:List (Str×V),f∈(putF f v fs).map (·.1)/\∀g,g∈fs.map (·.1)->g∈(putF f v fs).map (·.1)
 |[]=>⟨by simp[putF],λg h=>by simp at h⟩
 | (k,x)::r=>by
  obtain⟨i1,i2⟩:=ZX2 f v r;rw[show putF f v ((k,x)::r)=(if k=f then (k,v)::r else (k,x)::putF f v r) from Z];by_cases hk:k=f
  ·rw[if_pos hk];subst hk;exact⟨B,λg h=>by simpa using h⟩
  ·rw[if_neg hk];refine⟨?_,λg h=>?_⟩
   ·rw[QP];exact Yc _ i1
   ·rw[QP]at h ⊢;rcases Ye.mp h with e|e
    ·exact Ye.mpr (.inl e)
    ·exact Yc _ (i2 g e)
theorem ZF2(f:Str)(v:V):∀fs:List (Str×V),(putF f v fs).length<=fs.length+1
 |[]=>by simp[putF]
 | (k,x)::r=>by
  have ih:=ZF2 f v r;rw[show putF f v ((k,x)::r)=(if k=f then (k,v)::r else (k,x)::putF f v r) from Z];by_cases hk:k=f
  ·rw[if_pos hk,Yq,Yq];lia
  ·rw[if_neg hk,Yq,Yq];lia
theorem RelO.some_of{v:V}(r:RelO (some v) o):∃u,o=some u/\RelV v u:=by
 cases o with
 |none=>exact(show False from r).elim
 |some u=>exact⟨u,Z,r⟩
theorem RelO.none_of(r:RelO none o):o=none:=by
 cases o with
 |none=>rfl
 |some u=>exact(show False from r).elim
theorem ZI7(r:RelV v u):PySem.W.handedIn u=true:=by
 cases v with
 |non=>cases (show u=Value.none from r);rfl
 |bl b=>cases (show u=Value.bool b from r);rfl
 |int i=>obtain⟨t,e⟩:=(show ∃t,u=Value.int i t from r);cases e;rfl
 |str x=>obtain⟨t,e⟩:=(show ∃t,u=Value.str x t from r);cases e;rfl
 |byt b=>obtain⟨t,e⟩:=(show ∃t,u=Value.bytes b t from r);cases e;rfl
 |flt b=>obtain⟨t,e⟩:=(show ∃t,u=Value.float b t from r);cases e;rfl
 |ref a=>cases (show u=Value.ref a from r);rfl
 |ty n=>cases (show u=Value.type n from r);rfl
section
variable{P:Program}{w:World}{H:Hp}{h:Heap}{a C dx:Addr}{fs:List (Str×V)}
theorem Zu6(hok:HOk P w H h)(e:H a=some (.ins C dx fs)):∃mA,ObjM h a dx C mA/\(∀f,RelO (fs.lookup f) (mA f))/\PySem.Within mA (fs.map (·.1))/\fs.length<=1000/\H dx=some (.own a):=by obtain⟨d,z,ne,ob,mA,n,r,q⟩:=(show ObjOk P w H h a (.ins C dx fs) from hok a _ e);exact⟨mA,⟨ob,n,ne⟩,r,q,z,d⟩
end
structure Cls (K:PySem.W.Frag) (C:Addr):Prop where
 pg:PySem.W.plainGet K C Str.empty=true
 hd:PySem.W.hasDictIn K C=true
 po:PySem.W.plainOver K C=true
 sa:PySem.W.findIn K (.ref C) "__setattr__"=some (some<|.builtin "object.__setattr__")
theorem Cls.get{K:PySem.W.Frag}{C:Addr}(c:Cls K C)(f:Str):PySem.W.plainGet K C f=true:=c.pg
noncomputable def NoAttr(K:PySem.W.Frag)(C:Addr)(f:Str):Prop:=PySem.W.findIn K (.ref C) f=some none
theorem NoAttr.taker{K:PySem.W.Frag}{C:Addr}{f:Str}(n:NoAttr K C f):PySem.W.takerIn K C f=some none:=by unfold PySem.W.takerIn;rw[show PySem.W.findIn K (.ref C) f=some none from n];rfl
structure Meth (K:PySem.W.Frag) (C:Addr) (m:Str) (f:Addr):Prop where
 at_:PySem.W.findIn K (.ref C) m=some (some<|.ref f)
 fn:PySem.W.isFn K (.ref f)=true
 kp:PySem.W.keepIn K (.ref f)=true
section
variable{X:Cx}{pins:List (Addr×Obj)}{σ:St}{H:Hp}{s:Shared}{a C dx:Addr}{fs:List (Str×V)}{f:Str}{v:V}{A:Around}{E:Value->Shared->Prop}
theorem ZI6{Q:Value->Shared->Prop}(I:Inv X pins σ H s)(e:H a=some (.ins C dx fs))(c:Cls X.K C)(n:NoAttr X.K C f)(l:fs.lookup f=some v)
  (h:∀u s',Inv X pins σ H s'->RelV v u->Q u s'):wpAny (model X.prog X.w) A (getAttr (.ref a) f b) Q E s:=by obtain⟨mA,XY,r,_,_,_⟩:=Zu6 I.hok e;obtain⟨u,hu,ru⟩:=RelO.some_of (v:=v) (o:=mA f) (by rw[<-l];exact r f);exact Zz012 I.kIn XY (c.get f) c.hd n hu (ZI7 ru) (h u _ (I.tok _) ru)
theorem Zv3{Q:Value×List Value->Shared->Prop}(I:Inv X pins σ H s)(e:H a=some (.ins C dx fs))(c:Cls X.K C)(k:Meth X.K C m g)(l:fs.lookup m=none)
  (h:Q (.ref g,[.ref a]) s):wpAny (model X.prog X.w) A (getMethod (.ref a) m pl) Q E s:=by
 obtain⟨mA,XY,r,_,_,_⟩:=Zu6 I.hok e;have hn:mA m=none:=RelO.none_of (by rw[<-l];exact r m)
 exact Zz810 I.kIn XY (c.get m) k.at_ k.fn hn h
theorem ZO5{Q:Unit->Shared->Prop}(I:Inv X pins σ H s)(e:H a=some (.ins C dx fs))(c:Cls X.K C)(n:NoAttr X.K C f)(hl:fs.length<1000)(ry:RelV y u)
  (h:∀s',Inv X pins σ (upd H a<|.ins C dx<|putF f y fs) s'->Q () s'):wpAny (model X.prog X.w) A (setAttr (.ref a) f u) Q E s:=by
 obtain⟨mA,XY,r,wi,_,ho⟩:=Zu6 I.hok e;have hz:(fs.map (·.1)).length<=sizeLine:=by rw[Yy9,Y1N];lia
 refine Zz011 I.kIn XY c.sa c.po n.taker c.hd wi hz λh' O' sb=>h _ ?_;have hd:∃o,h'.get? dx=some o:=by obtain⟨o,_,_,e',_⟩:=O'.ns;exact⟨o,e'⟩
 refine I.write (x:=a) (e:=dx) (by rw[e];exact True.intro) (.inr ho) (λb q hb z=>(sb.2 b hb).trans z) hd ?_;refine⟨by rw[Zd XY.ne];exact ho,?_,XY.ne,O'.obj,_,O'.ns,λg=>?_,λg hg=>?_⟩
 ·have:=ZF2 f y fs;lia
 ·show RelO ((putF f y fs).lookup g) (if g=f then some u else mA g);rw[Zz01];by_cases q:g=f
  ·rwa[if_pos q,if_pos q]
  ·rw[if_neg q,if_neg q];exact r g
 ·by_cases q:g=f
  ·rw[q];exact(ZX2 f y fs).1
  ·refine(ZX2 f y fs).2 g (wi g λz=>hg ?_);show(if g=f then some u else mA g)=none
   rwa[if_neg q]
theorem Inv.made(I:Inv X pins σ H s):Inv X pins σ (upd (upd H s.heap.objs.size (.own (s.heap.objs.size+1))) (s.heap.objs.size+1) (.ins C s.heap.objs.size []))
  {s with heap:=(s.heap.push PySem.W.emptyDict).push (PySem.W.instObj C s.heap.objs.size)}:=by
 have e1:(s.heap.push PySem.W.emptyDict).get? s.heap.objs.size=some PySem.W.emptyDict:=Yk s.heap rfl;have e2:((s.heap.push PySem.W.emptyDict).push (PySem.W.instObj C s.heap.objs.size)).get? (s.heap.objs.size+1)=some (PySem.W.instObj C s.heap.objs.size):=by
  have:=Yk (s.heap.push PySem.W.emptyDict) (o:=PySem.W.instObj C s.heap.objs.size) rfl
  rwa[Y0n]at this
 have e3:(s.heap.push PySem.W.emptyDict).Ns s.heap.objs.size (λ_=>none):=⟨PySem.W.emptyDict,#[],_,e1,Z,λe he=>absurd he B,λ_=>rfl⟩;have I1:=I.laid (a:=s.heap.objs.size) (o:=.own<|s.heap.objs.size+1) (h':=s.heap.push PySem.W.emptyDict) (t':=s.toks) (λb u q=>Yy5 _ q) (Yy6 _) ⟨_,e1⟩
 refine I1.laid (a:=s.heap.objs.size+1) (o:=.ins C s.heap.objs.size []) (t':=s.toks) (λb u q=>Yy5 _ q) (Nat.le_of_eq<|Y0n _ _) ?_;have ne:s.heap.objs.size≠s.heap.objs.size+1:=Ym (Y0d _)
 refine⟨by rw[Zd ne,Zz1],Yr _,ne,e2,λ_=>none,(Heap.Ns1.of_empty e3).at λo q=>Yy5 _ q,λ_=>True.intro,λy hy=>absurd Z hy⟩
theorem Zu12{pos:Pos}{Q:Value->Shared->Prop}(hb:attributeBase e f env (eval e env)=eval e env)
  (h:wpAny (model prog w) A (eval e env) (λo s₁=>wpAny (model prog w) A (getAttr o f true) Q E s₁) E s):wpAny (model prog w) A (eval (.Attribute e f pos) env) Q E s:=
 Attribute_any_ h (by rw[arm_eval_Attribute,hb])
end
noncomputable def tFld(K:PySem.W.Frag)(ta:TE)(f:Str):TE:=λσ H Q=>ta σ H λx H1=>∃a C dx fs v,x=.ref a/\H1 a=some (.ins C dx fs)/\Cls K C/\NoAttr K C f/\fs.lookup f=some v/\Q v H1
noncomputable def sFld(K:PySem.W.Frag)(ta tv:TE)(f:Str):TS:=λD σ H=>tv σ H λy H1=>ta σ H1 λx H2=>∃a C dx fs,x=.ref a/\H2 a=some (.ins C dx fs)/\Cls K C/\NoAttr K C f/\fs.length<1000/\
 D.nx σ (upd H2 a<|.ins C dx<|putF f y fs)
section
variable{X:Cx}{o e value:Expr}{f:Str}{pos pos':Pos}{ta tv:TE}
theorem Ze13(he:PE X e ta)(hb:attributeBase e f X.env (eval e X.env)=eval e X.env):PE X (.Attribute e f pos) (tFld X.K ta f):=by intro pins s σ H Q I h;refine Zu12 hb (thn (he pins s σ H _ I h) λu s1 hz0=>?_);obtain⟨x,H1,I1,rx,a,C,dx,fs,v,ex,ea,c,n,l,q⟩:=hz0;subst ex;obtain rfl:u=Value.ref a:=rx;exact ZI6 I1 ea c n l λu' s2 I2 ru=>⟨v,H1,I2,ru,q⟩
theorem Zm9(ha:PE X o ta)(hv:PE X value tv)(hs:swapsWith value (some (.Attribute o f pos')) pos.line X.env=pure false):PS X (.Assign [.Attribute o f pos'] value pos) (sFld X.K ta tv f):=by intro pins s σ H D I h;refine plainObj_wpAny_Assign_Attribute (thn (hv pins s σ H _ I h) λu s1 zz=>?_) hs;obtain⟨y,H1,I1,ry,q⟩:=zz;refine thn (ha pins s1 σ H1 _ I1 q) λov s2 hz0=>?_;obtain⟨x,H2,I2,rx,a,C,dx,fs,ex,ea,c,n,l,q2⟩:=hz0;subst ex;obtain rfl:ov=Value.ref a:=rx;exact ZO5 I2 ea c n l ry λs3 I3=>⟨σ,_,I3,q2⟩
end
structure Room (k:Nat) (A:Around):Prop where
 hd:A.handled=none
 dp:A.depth+3*k+5<recursionLimit
 un:A.units+16*k+200<cLine
theorem Room.mono(r:Room k A)(h:j<=k):Room j A:=⟨r.hd,by have:=r.dp;lia,by have:=r.un;lia⟩
theorem Room.deeper(r:Room (k+1) A)(env:Env):Room k (A.deeper env):=
 ⟨r.hd,by have:=r.dp;show A.depth+1+3*k+5<_;lia,by have:=r.un;show A.units+3+16*k+200<_;lia⟩
theorem Zl6 {A:Around} {C:Addr} {us:List Value} {kw:List (Str×Value)}:(A.under (.builtin "type.__call__" ⟨.ref C::us,kw⟩)).depth=A.depth+1:=by
 first|rfl|simp[Around.under,Code.weight,Code.isCreation,Code.isGuard,Code.isCaller,Code.frames,Code.isFrame,guardIds]
theorem Zk6 {A:Around} {C:Addr} {us:List Value} {kw:List (Str×Value)}:(A.under (.builtin "type.__call__" ⟨.ref C::us,kw⟩)).units=A.units+1:=by
 first|rfl|simp[Around.under,Code.cUnits,Code.frames,Code.isFrame]
theorem Room.make (r:Room (k+1) A) (C:Addr) (us:List Value) (kw:List (Str×Value)):Room k (A.under (.builtin "type.__call__" ⟨.ref C::us,kw⟩)):=
 ⟨r.hd,by have:=r.dp;rw[Zl6];lia,by have:=r.un;rw[Zk6];lia⟩
theorem Room.depth(r:Room k A):A.depth<recursionLimit:=by have:=r.dp;lia
theorem Room.units(r:Room k A):A.units+64<cLine:=by have:=r.un;lia
noncomputable def tNil:TA:=λ_ H Q=>Q [] H
noncomputable def ZL3(ta:TE)(tr:TA):TA:=λσ H Q=>ta σ H λx H1=>tr σ H1 λxs H2=>Q (x::xs) H2
section
variable{X:Cx}{e:Expr}{es:List Expr}{te:TE}{t:TA}{pos:Pos}
theorem Zz3:PA X [] tNil:=λ_ _ _ _ H Q I h=>Calls.spliced_nil ⟨[],H,I,.nil,h⟩
theorem Zz0(ha:PE X e te)(hr:PA X es t)(hs:starEach (e::es) X.env=(false,eval e X.env)::starEach es X.env:=by rfl):PA X (e::es) (ZL3 te t):=by
 intro pos pins s σ H Q I h;rw[hs];show wpAny _ _ (spliced<|(false,eval e X.env)::backTo pos (starEach es X.env)) _ _ s
 refine Calls.spliced_cons (thn (ha pins s σ H _ I h) λu s1 hz0=>?_);obtain⟨x,H1,I1,r1,q1⟩:=hz0;exact thn (hr pos pins s1 σ H1 _ I1 q1) λus s2 zz=>by obtain⟨xs,H2,I2,r2,q2⟩:=zz;exact⟨x::xs,H2,I2,.cons r1 r2,q2⟩
noncomputable def tTup(t:TA):TE:=λσ H Q=>t σ H λxs H1=>xs.length<=sizeLine/\∀p,H1 p=none->Q (.ref p) (upd H1 p<|.tup xs)
noncomputable def tLst(t:TA):TE:=λσ H Q=>t σ H λxs H1=>xs.length<=sizeLine/\∀p,H1 p=none->Q (.ref p) (upd H1 p<|.lst xs)
theorem Zb1{x1}(h:PA X es t):PE X (.Tuple es x1 pos) (tTup t):=by
 intro pins s σ H Q I hq;refine wpAny_Tuple_spliced (thn (h pos pins s σ H _ I hq) λus s1 ⟨xs,H1,I1,r,z,q⟩=>⟨by rw[<-r.length];exact z,?_⟩);have hf:H1 s1.heap.objs.size=none:=I1.hok.fresh (Yy6 _)
 refine⟨.ref s1.heap.objs.size,upd H1 s1.heap.objs.size<|.tup xs,I1.laid (t':=s1.toks) (λb u e=>Yy5 _ e) (Yy6 _) ?_,Z,q _ hf⟩;exact⟨z,us,r,⟨_,Yk _ Z,Z,_,Z⟩⟩
theorem ZT(h:PA X es t):PE X (.List es pos) (tLst t):=by
 intro pins s σ H Q I hq;refine wpAny_List_spliced (thn (h pos pins s σ H _ I hq) λus s1 ⟨xs,H1,I1,r,z,q⟩=>⟨by rw[<-r.length];exact z,?_⟩);have hf:H1 s1.heap.objs.size=none:=I1.hok.fresh (Yy6 _)
 refine⟨.ref s1.heap.objs.size,upd H1 s1.heap.objs.size<|.lst xs,I1.laid (t':=s1.toks) (λb u e=>Yy5 _ e) (Yy6 _) ?_,Z,q _ hf⟩;exact⟨z,us,0,r,Yk _ Z⟩
end
noncomputable abbrev Sp:=List V->Hp->VK->XK->Prop
noncomputable abbrev CXT:=List Env->Hp->Shared->XK->Value->Shared->Prop
structure Env0 (P:Program) (w:World) (K:PySem.W.Frag) (mg:Str->Option Value) (base:Heap) (A:Around) (outer:List Env) (s:Shared) (H:Hp):Prop where
 frames:A.frames=some outer
 mod:Mod K mg base
 bs:∀b o,base.get? b=some o->s.heap.get? b=some o/\H b=none
 bsz:base.objs.size<=s.heap.objs.size
 funs:s.heap.FunFrames base outer
 frf:∀b∈frs outer,H b=none
 hok:HOk P w H s.heap
 bare:AllBare s.gens
noncomputable def CE(outer:List Env)(P:Program)(w:World)(H:Hp)(s:Shared)(Q:VK)(u:Value)(s':Shared):Prop:=
 ∃v H',s'.os=s.os/\AllBare s'.gens/\Un (frs outer) [] H H' s.heap s'.heap/\HOk P w H' s'.heap/\RelV v u/\Q v H'
noncomputable def CR(CX:CXT)(outer:List Env)(P:Program)(w:World)(H:Hp)(s:Shared)(Q:VK)(E:XK)(r:Result)(s':Shared):Prop:=
 match r with
 | .ok (.ret u)=>CE outer P w H s Q u s'
 | .ok _=>False
 | .error e=>CX outer H s E e s'
structure FnOk (P:Program) (w:World) (K:PySem.W.Frag) (mg:Str->Option Value) (base:Heap) (CX:CXT) (k:Nat) (f:Addr) (fd:FuncData) (ps:List Str) (sp:Sp):Prop where
 len:∀vs H Q E,sp vs H Q E->vs.length=ps.length
 run:∀(A:Around)(outer:List Env)(s:Shared)(H:Hp)(args:Args)(us:List Value)(vs:List V)(Q:VK)(E:XK),Room k A->Env0 P w K mg base A outer s H->BindsTo s fd args (ps.zip us)->Vals vs us->sp vs H Q E->
  codeAny (model P w) A (.call (.ref f) args) (CR CX outer P w H s Q E) s
theorem Env0.make{P:Program}{w:World}{K:PySem.W.Frag}{mg:Str->Option Value}{base:Heap}{A:Around}{outer:List Env}{s:Shared}{H:Hp}(e:Env0 P w K mg base A outer s H)(C:Addr)(us:List Value)(kw:List (Str×Value)):
  Env0 P w K mg base (A.under<|.builtin "type.__call__" ⟨.ref C::us,kw⟩) outer s H:=⟨by first|exact e.frames|(simpa[Around.under,Code.envs,Code.isFrame,pushEnvs] using e.frames),e.mod,e.bs,e.bsz,e.funs,e.frf,e.hok,e.bare⟩
section
variable{X:Cx}{pins:List (Addr×Obj)}{σ:St}{H:Hp}{s s':Shared}
theorem Inv.env0(I:Inv X pins σ H s):Env0 X.prog X.w X.K X.mg X.base X.A X.stack s H:=
 ⟨I.ok.frames,I.ok.mod,I.bs,Yv I.ok.bsz I.sz,I.stack,I.stkFree,I.hok,I.bare⟩
theorem Inv.after(I:Inv X pins σ H s)(h:CE X.stack X.prog X.w H s Q u s'):EP X pins σ Q u s':=by obtain⟨v,H',os,bare,un,hok,r,q⟩:=h;obtain⟨hh,g,d,t,os'⟩:=s';obtain rfl:os'=s.os:=os;exact⟨v,H',I.call (h':=hh) (g':=g) (d':=d) (t':=t) (ch:=[]) un hok bare λb z=>absurd z B,r,q⟩
end
noncomputable def ZU12(sp:Sp)(dvs:List V)(E:XK)(t:TA):TE:=λσ H Q=>t σ H λvs H1=>sp (vs++dvs) H1 Q E
noncomputable def ZH13(C:Addr)(m:Str)(sp:Sp)(dvs:List V)(E:XK)(ta:TE)(t:TA):TE:=λσ H Q=>ta σ H λx H1=>∃a dx fs,x=.ref a/\H1 a=some (.ins C dx fs)/\fs.lookup m=none/\
 t σ H1 λvs H2=>sp (x::(vs++dvs)) H2 Q E
noncomputable def ZW13(C:Addr)(sp:Sp)(dvs:List V)(E:XK)(t:TA):TE:=λσ H Q=>t σ H λvs H1=>∀x dx,H1 x=none->H1 dx=none->dx≠x->
 sp (.ref x::(vs++dvs)) (upd (upd H1 dx<|.own x) x<|.ins C dx []) (λv H2=>v=.non/\Q (.ref x) H2) E
noncomputable def Binds(K:PySem.W.Frag)(fd:FuncData)(ps:List Str)(ds:List Value):Prop:=
 ∀(s:Shared)(us:List Value),K.In s.heap->(us++ds).length=ps.length->BindsTo s fd ⟨us,[]⟩ (ps.zip<|us++ds)
theorem Binds.all{K:PySem.W.Frag}{fd:FuncData}{ps:List Str}(h:∀us:List Value,us.length=ps.length->bindArgs fd ⟨us,[]⟩=pure (ps.zip us)):Binds K fd ps []:=λs us _ hl=>by rw[Yy04]at hl ⊢;exact .of_eq (h us hl)
noncomputable def Yz2(CX:CXT)(X:Cx)(E:XK):Prop:=∀(pins:List (Addr×Obj))(σ:St)(H:Hp)(s:Shared)(e:Value)(s':Shared),Inv X pins σ H s->CX X.stack H s E e s'->X.xe e s'
section
variable{X:Cx}{CX:CXT}{k:Nat}{f C:Addr}{fd:FuncData}{ps:List Str}{sp:Sp}{dvs:List V}{ds:List Value}{E:XK}{x m:Str}{p pos apos:Pos}{e o:Expr}{es:List Expr}{ta:TE}{t:TA}
theorem Zg9(F:FnOk X.prog X.w X.K X.mg X.base CX k f fd ps sp)(hr:Room k X.A)(hb:Binds X.K fd ps ds)(hd:Vals dvs ds)(hx:Yz2 CX X E)
  (I:Inv X pins σ H s)(r:Vals vs us)(h:sp (vs++dvs) H Q E):wpAny (model X.prog X.w) X.A (call (.ref f) us) (EP X pins σ Q) X.xe s:=by
 have r2:Vals (vs++dvs) (us++ds):=r.append hd;have hl:(us++ds).length=ps.length:=by rw[<-r2.length];exact F.len _ _ _ _ h
 refine wpAny_call (Y1B (F.run X.A X.stack s H ⟨us,[]⟩ (us++ds) (vs++dvs) Q E hr I.env0 (hb s us I.kIn hl) r2 h) λr s' hq=>?_);cases r with
 |error e=>exact hx pins σ H s e s' I hq
 |ok fl=>
  cases fl with
  |ret u=>exact I.after hq
  |next=>exact False.elim hq
  |brk=>exact False.elim hq
  |cont=>exact False.elim hq
theorem Zj11(F:FnOk X.prog X.w X.K X.mg X.base CX k f fd ps sp)(hr:Room k X.A)(hg:Gl X x)(hm:X.mg x=some (.ref f))(hk:PySem.W.keepIn X.K (.ref f)=true)(hb:Binds X.K fd ps ds)(hd:Vals dvs ds)(hx:Yz2 CX X E)
  (ha:PA X (e::es) t)(hdb:(x == ("__debug__":Str))=false:=by decide)(he:starEach (e::es) X.env=(false,eval e X.env)::starEach es X.env:=by rfl)(hpl:(backTo pos<|starEach es X.env).any (·.1)=false:=by rfl):
  PE X (.Call (.Name x p) (e::es) [] pos) (ZU12 sp dvs E t):=by intro pins s σ H Q I h;refine Y0y (ZG2 I hg hm ?_ hdb);refine Y1P (h₀:=X.base) I.ok.mod.kin hk (thn (ha pos pins s σ H _ I h) λus s1 ⟨vs,H1,I1,r,q⟩=>⟨I1.kIn,?_⟩) he hpl;exact Zg9 F hr hb hd hx I1 r q
theorem Zy9(F:FnOk X.prog X.w X.K X.mg X.base CX k f fd ps sp)(hr:Room k X.A)(hg:Gl X x)(hm:X.mg x=some (.ref f))(hk:PySem.W.keepIn X.K (.ref f)=true)(hb:Binds X.K fd ps ds)(hd:Vals dvs ds)(hx:Yz2 CX X E)
  (hdb:(x == ("__debug__":Str))=false:=by decide):PE X (.Call (.Name x p) [] [] pos) (ZU12 sp dvs E tNil):=by intro pins s σ H Q I h;refine Y0y (ZG2 I hg hm ?_ hdb);exact PySem.W.callWith_K0 I.kIn hk (Zg9 (us:=[]) F hr hb hd hx I .nil h)
theorem Zi2(he:PE X o ta)(c:Cls X.K C)(hm:Meth X.K C m f)(F:FnOk X.prog X.w X.K X.mg X.base CX k f fd ps sp)(hr:Room k X.A)(hb:Binds X.K fd ps ds)(hd:Vals dvs ds)(hx:Yz2 CX X E)
  (ht:eval (.Call (.Attribute o m apos) [] [] pos) X.env=(do
   let ov <-eval o X.env
   standAt apos.atName
   let (f,first) <-holding [ov] (getMethod ov m pl)
   callWith pos f first (backTo pos<|starEach [] X.env) (backToKw pos<|keywordEach [] X.env)):=by rfl):
  PE X (.Call (.Attribute o m apos) [] [] pos) (ZH13 C m sp dvs E ta tNil):=by intro pins s σ H Q I h;refine Y3r (pl:=pl) (thn (he pins s σ H _ I h) λu s1 hz0=>?_) ht;obtain⟨x,H1,I1,rx,a,dx,fs,ex,ea,l,q⟩:=hz0;subst ex;obtain rfl:u=Value.ref a:=rx;refine Zv3 I1 ea c hm l ?_;exact PySem.W.callWith_K0 (first:=[.ref a]) I1.kIn hm.kp (Zg9 (us:=[.ref a]) (vs:=[.ref a]) F hr hb hd hx I1 (.cons rfl .nil) q)
structure Mk (K:PySem.W.Frag) (C f:Addr):Prop where
 makes:PySem.W.makesIn K C=true
 init:PySem.W.findIn K (.ref C) "__init__"=some (some<|.ref f)
 fn:PySem.W.isFn K (.ref f)=true
 kp:PySem.W.keepIn K (.ref C)=true
theorem Zf9(M:Mk X.K C f)(F:FnOk X.prog X.w X.K X.mg X.base CX k f fd ps sp)(hr:Room (k+1) X.A)(hb:Binds X.K fd ps ds)(hd:Vals dvs ds)
  (hx:Yz2 CX X E)(I:Inv X pins σ H s)(r:Vals vs us)
  (h:∀x dx,H x=none->H dx=none->dx≠x->sp (.ref x::(vs++dvs)) (upd (upd H dx<|.own x) x<|.ins C dx []) (λv H2=>v=.non/\Q (.ref x) H2) E):
  wpAny (model X.prog X.w) X.A (call (.ref C) us) (EP X pins σ Q) X.xe s:=by
 have hq:=h (s.heap.objs.size+1) s.heap.objs.size (I.hok.fresh<|Y0W _) (I.hok.fresh<|Yy6 _) (Ym<|Y0d _);have I2:=Inv.made (C:=C) I
 have r2:Vals (V.ref (s.heap.objs.size+1)::(vs++dvs)) (Value.ref (s.heap.objs.size+1)::(us++ds)):=.cons Z (r.append hd);have hl:(Value.ref (s.heap.objs.size+1)::us++ds).length=ps.length:=by have e:=r2.length;rw[F.len _ _ _ _ hq]at e;exact e.symm
 refine wpAny_call (ZP9 (f:=f) I.kIn M.makes M.init (Y1d.mp M.fn) (Y1B (F.run _ X.stack _ _ ⟨Value.ref (s.heap.objs.size+1)::us,[]⟩ (Value.ref (s.heap.objs.size+1)::(us++ds)) _ _ E (hr.make C us [])
  (I2.env0.make C us []) (hb _ (Value.ref (s.heap.objs.size+1)::us) I2.kIn hl) r2 hq) λr s' hq'=>?_))
 cases r with
 |error e=>exact hx pins σ _ _ e s' I2 hq'
 |ok fl=>
  cases fl with
  |ret u=>
   obtain⟨v,H',I3,rv,ev,q3⟩:=I2.after hq';subst ev;exact⟨rv,⟨V.ref<|s.heap.objs.size+1,H',I3,Z,q3⟩⟩
  |next=>exact False.elim hq'
  |brk=>exact False.elim hq'
  |cont=>exact False.elim hq'
theorem Zz26(M:Mk X.K C f)(F:FnOk X.prog X.w X.K X.mg X.base CX k f fd ps sp)(hr:Room (k+1) X.A)(hg:Gl X x)(hm:X.mg x=some (.ref C))(hb:Binds X.K fd ps ds)(hd:Vals dvs ds)(hx:Yz2 CX X E)
  (ha:PA X (e::es) t)(hdb:(x == ("__debug__":Str))=false:=by decide)(he:starEach (e::es) X.env=(false,eval e X.env)::starEach es X.env:=by rfl)(hpl:(backTo pos<|starEach es X.env).any (·.1)=false:=by rfl):
  PE X (.Call (.Name x p) (e::es) [] pos) (ZW13 C sp dvs E t):=by intro pins s σ H Q I h;refine Y0y (ZG2 I hg hm ?_ hdb);refine Y1P (h₀:=X.base) I.ok.mod.kin M.kp (thn (ha pos pins s σ H _ I h) λus s1 ⟨vs,H1,I1,r,q⟩=>⟨I1.kIn,?_⟩) he hpl;exact Zf9 M F hr hb hd hx I1 r q
end
structure FnScope (N P:List Str) (sc:Scope):Prop where
 kind:sc.kind=.function
 co:sc.isCoroutine=false
 gen:sc.isGenerator=false
 nd:N.Nodup
 pre:N.take P.length=P
 par:∀x∈P,sc.names.lookup x=some .local\/sc.names.lookup x=some .cell
 nofree:∀y∈sc.names,y.2≠.free
theorem ZX4{kindOf:Str->Option NameKind}:∀{binds:List (Str×Value)}{m:Str->Option Value},(∀v,(x,v)∉binds)->bindL kindOf binds m x=m x
 |[],_,_=>rfl
 | (n,v)::r,m,h=>by
  unfold bindL;rw[ZX4 λw hw=>h w (Yc _ hw)];split
  ·have:x≠n:=by rintro rfl;exact h v Yb
   simp[this]
  ·rfl
theorem ZZ4{kindOf:Str->Option NameKind}:∀{binds:List (Str×Value)}{m:Str->Option Value},(∀v,(x,v)∉binds)->bindC kindOf binds m x=m x
 |[],_,_=>rfl
 | (n,v)::r,m,h=>by
  unfold bindC;rw[ZZ4 λw hw=>h w (Yc _ hw)];split
  ·rfl
  ·have:x≠n:=by rintro rfl;exact h v Yb
   simp[this]
theorem ZY4{kindOf:Str->Option NameKind}{x:Str}{v:Value}:∀{P:List Str}{vs:List Value}{i:Nat}{m:Str->Option Value},P.Nodup->P[i]?=some x->vs[i]?=some v->kindOf x=some .local->
  bindL kindOf (P.zip vs) m x=some v
 |[],_,_,_,_,h,_,_=>by simp at h
 |_::_,[],_,_,_,_,h,_=>by simp at h
 |p::P,w::vs,0,m,nd,h1,h2,hk=>by
  simp at h1 h2;subst h1;subst h2;show bindL kindOf ((p,w)::P.zip vs) m p=_
  unfold bindL;rw[ZX4 λv hv=>(Y0r.mp nd).1 (Yy31 hv).1,if_pos hk];simp
 |p::P,w::vs,i+1,m,nd,h1,h2,hk=>by show bindL kindOf ((p,w)::P.zip vs) m x=_;unfold bindL;exact ZY4 (i:=i) (Y0r.mp nd).2 (by simpa using h1) (by simpa using h2) hk
theorem Zz05{kindOf:Str->Option NameKind}{x:Str}{v:Value}:∀{P:List Str}{vs:List Value}{i:Nat}{m:Str->Option Value},P.Nodup->P[i]?=some x->vs[i]?=some v->kindOf x≠some .local->
  bindC kindOf (P.zip vs) m x=some v
 |[],_,_,_,_,h,_,_=>by simp at h
 |_::_,[],_,_,_,_,h,_=>by simp at h
 |p::P,w::vs,0,m,nd,h1,h2,hk=>by
  simp at h1 h2;subst h1;subst h2;show bindC kindOf ((p,w)::P.zip vs) m p=_
  unfold bindC;rw[ZZ4 λv hv=>(Y0r.mp nd).1 (Yy31 hv).1,if_neg hk];simp
 |p::P,w::vs,i+1,m,nd,h1,h2,hk=>by show bindC kindOf ((p,w)::P.zip vs) m x=_;unfold bindC;exact Zz05 (i:=i) (Y0r.mp nd).2 (by simpa using h1) (by simpa using h2) hk
noncomputable def start(N:List Str)(vs:List V):St:=vs.map some++List.replicate (N.length-vs.length) none
noncomputable def cxOf(CX:CXT)(P:Program)(w:World)(K:PySem.W.Frag)(mg:Str->Option Value)(base:Heap)(N:List Str)(qual:Str)(scope:Scope)(f:Addr)(cd:Value)(A:Around)(outer:List Env)(s:Shared)(H:Hp)(E:XK):Cx where
 prog:=P
 w:=w
 K:=K
 mg:=mg
 base:=base
 A:=A.deeper (envOfC qual scope s.heap.objs.size f cd)
 N:=N
 s₀:=s
 H₀:=H
 env:=envOfC qual scope s.heap.objs.size f cd
 outer:=outer
 stack:=envOfC qual scope s.heap.objs.size f cd::outer
 ex:=[]
 calm:=true
 fn:=λ_=>true
 pn:=[]
 xe:=λe s'=>wpAny (model P w) (A.deeper<|envOfC qual scope s.heap.objs.size f cd) (leaving (envOfC qual scope s.heap.objs.size f cd) e) (λ_ s''=>CX outer H s E e s'') (λe' s''=>CX outer H s E e' s'') s'
theorem Zz57{sc:Scope}(h:sc.names.lookup x=some .cell):∃c,(cellsFrom n sc.names []).lookup x=some c:=by have q:=Y3n sc.names n [] (.inl h);exact Y1T.mp q
theorem ZE7{CX:CXT}{P:Program}{w:World}{K:PySem.W.Frag}{mg:Str->Option Value}{base:Heap}{N ps:List Str}{qual:Str}{scope:Scope}{f:Addr}{cd:Value}{A:Around}{outer:List Env}{s s1:Shared}{H:Hp}{E:XK}{us:List Value}{vs:List V}
  (XW:FnScope N ps scope)(hd:A.handled=none)(e0:Env0 P w K mg base A outer s H)(hl:vs.length=ps.length)(r:Vals vs us)
  (x:InCallC s s.heap.objs.size (bindL (envOfC qual scope s.heap.objs.size f cd).kindOf (ps.zip us) λ_=>none) (cellsFrom (s.heap.objs.size+1) scope.names []) (bindC (envOfC qual scope s.heap.objs.size f cd).kindOf (ps.zip us) λ_=>none) s1):
  Inv (cxOf CX P w K mg base N qual scope f cd A outer s H E) [] (start N vs) H s1:=by
 have hpl:ps.length<=N.length:=by have:=YX List.length XW.pre;rw[Yp]at this;lia
 obtain⟨h1,tk,rfl,hk⟩:=x.done;have noA:∀b:Addr,b∉(cxOf CX P w K mg base N qual scope f cd A outer s H E).ex:=λb z=>absurd (show b∈([]:List Addr) from z) B
 refine⟨⟨e0.mod,XW.kind,Z,Z,Yy6 _,λy z c h1 h2=>?_,λy hy=>?_,λy c _ h=>?_,λ_=>hd,Around.frames_deeper e0.frames,.inr ⟨Z,Z⟩,λb z=>absurd z<|noA b,e0.bs,e0.bsz,λb _ _=>noA b,λb z=>absurd z<|noA b,e0.funs,e0.frf⟩,
  rfl,e0.bare,Un.kept hk,⟨_,x.toInCall.ns,λi y v h1 h2 h3=>?_⟩,λy c h=>⟨_,x.cell y c h⟩,e0.hok.fresh<|Yy6 _,λy c h=>?_,λp hp=>absurd (show p∈([]:List (Addr×Obj)) from hp) B,e0.hok.kept hk,?_⟩
 ·exact name_of_addr x.apart (Y0Y h1) (Y0Y h2)
 ·have hy:scope.names.lookup y=some .cell\/scope.names.lookup y=some .free:=hy;rcases hy with hy|hy
  ·exact Zz57 hy
  ·exact absurd Z (XW.nofree _<|Y0Y hy)
 ·exact Y1m (x.above y c<|Y0Y h)
 ·have hi:i<vs.length:=by
   unfold start at h2;by_cases hi:i<vs.length
   ·exact hi
   ·rw[Yn (by simpa using hi)]at h2;rw[Y0X]at h2;split at h2<;>cases h2
  have ha:vs[i]?=some v:=by
   unfold start at h2;rw[Ys (by simpa using hi),Yg]at h2;cases e:vs[i]? with
   |none=>rw[e]at h2;cases h2
   |some a=>rw[e]at h2;cases h2;rfl
  obtain⟨u,hu,rv⟩:=r.get ha;have hp:ps[i]?=some y:=by rwa[<-XW.pre,Y3e O]
  have ndP:ps.Nodup:=by rw[<-XW.pre];exact XW.nd.sublist (List.take_sublist _ _)
  refine⟨u,rv,?_⟩;rcases XW.par y (Yy8 hp) with k|k
  ·exact .inl ⟨k,ZY4 ndP hp hu k⟩
  ·obtain⟨c,e⟩:=Zz57 (n:=s.heap.objs.size+1) k;refine .inr ⟨.inl k,c,e,?_⟩;have q:=x.cell y c e
   rwa[Zz05 ndP hp hu (by show scope.names.lookup y≠_;rw[k];decide)]at q
 ·exact e0.hok.fresh (Y1m<|x.above y c<|Y0Y h)
 ·unfold start;show _=N.length
  rw[Yy3,Yy9,Yx];grind
theorem ZQ13{CX:CXT}{P:Program}{w:World}{K:PySem.W.Frag}{mg:Str->Option Value}{base:Heap}{k:Nat}{f:Addr}{name qual:Str}{params:Arguments}{body:List Stmt}{scope:Scope}{dV kV doc pm cdv ct oc:Value}{an od:Option Addr}
  {osl:Array (Option Value)}{N ps:List Str}{sp:Sp}(lk:K.lookup f=some ⟨oc,od,.func<|PySem.W.fnOf name qual params body scope dV kV doc pm an cdv ct,osl⟩)(hcd:PySem.W.codeIn K cdv qual=true)(XW:FnScope N ps scope)
  (len:∀vs H Q E,sp vs H Q E->vs.length=ps.length)
  (hbody:∀(A:Around)(outer:List Env)(s:Shared)(H:Hp)(vs:List V)(Q:VK)(E:XK),Room k (A.deeper<|envOfC qual scope s.heap.objs.size f cdv)->sp vs H Q E->
   ∃t,PSs (cxOf CX P w K mg base N qual scope f cdv A outer s H E) body t/\t {nx:=λ_ H'=>Q .non H',rt:=Q} (start N vs) H):
  FnOk P w K mg base CX (k+1) f (PySem.W.fnOf name qual params body scope dV kV doc pm an cdv ct) ps sp:=by
 refine⟨len,λA outer s H args us vs Q E hr e0 hb r hsp=>?_⟩;have hl:=len _ _ _ _ hsp
 have KX:K.In s.heap:=e0.mod.kin.keeps λb o e=>(e0.bs b o e).1;have lim:s.heap.NoLimit:=e0.mod.nolimit.keeps λb o e=>(e0.bs b o e).1
 have hkind:∀y∈ps.zip us,scope.names.lookup y.1=some .local\/(scope.names.lookup y.1=some .cell/\((cellsFrom (s.heap.objs.size+1) scope.names []).lookup y.1).isSome=true):=λ⟨n,v⟩ hy=>by
  rcases XW.par n (Yy31 hy).1 with q|q
  ·exact .inl q
  ·exact .inr ⟨q,Y3n _ _ _<|.inl q⟩
 refine codeAny_call_function hr.depth (KX _ _ lk) Z XW.co XW.gen Z (PySem.W.codeRec_of KX hcd) (hb _ _ _ _ ?_);refine wpAny_newFunctionEnv_cells XW.kind hkind λenv he s1 x=>?_;subst he;refine⟨lim.keeps x.toInCall.keep,codeAny_func ?_⟩;obtain⟨t,ht,hq⟩:=hbody A outer s H vs Q E (hr.deeper _) hsp;have I:Inv (cxOf CX P w K mg base N qual scope f cdv A outer s H E) [] (start N vs) H s1:=ZE7 XW hr.hd e0 hl r x
 refine Yy07 (ht [] s1 (start N vs) H _ I hq) (λfl s' hs=>?_) λe s' hs=>hs;have fin:∀{σ':St}{H':Hp}{v:V}{u:Value},Inv (cxOf CX P w K mg base N qual scope f cdv A outer s H E) [] σ' H' s'->RelV v u->Q v H'->CE outer P w H s Q u s':=
  λ{σ' H' v u} XX rv q=>⟨v,H',XX.os,XX.bare,XX.base,XX.hok,rv,q⟩
 cases fl with
 |ret u=>
  obtain⟨v,σ',H',XX,rv,q⟩:=hs;exact fin XX rv q
 |next=>
  obtain⟨σ',H',XX,q⟩:=hs;exact fin (v:=V.non) (u:=Value.none) XX Z q
 |brk=>
  obtain⟨_,_,_,q⟩:=hs;exact False.elim q
 |cont=>
  obtain⟨_,_,_,q⟩:=hs;exact False.elim q
section
variable{X:Cx}{x:Str}{p pos:Pos}{e:Expr}{es:List Expr}{t:TA}{id T:String}{r:List V->Hp->VK->Prop}
noncomputable def tCB(r:List V->Hp->VK->Prop)(t:TA):TE:=λσ H Q=>t σ H λvs H1=>r vs H1 Q
theorem Zc (hc:Zz12 X (.builtin id) r) (hg:Gl X x) (hm:X.mg x=none) (hv:bootBuiltins x=some (.builtin id)) (ha:PA X (e::es) t) (hn:x≠"__name__":=by decide) (hdb:(x == ("__debug__":Str))=false:=by decide)
  (he:starEach (e::es) X.env=(false,eval e X.env)::starEach es X.env:=by rfl)(hpl:(backTo pos<|starEach es X.env).any (·.1)=false:=by rfl):PE X (.Call (.Name x p) (e::es) [] pos) (tCB r t):=by intro pins s σ H Q I h;refine Y0y (Zw2 I hg hm hv ?_ hn hdb);exact Y2z (thn (ha pos pins s σ H _ I h) λus s1 zz=>by obtain⟨vs,H1,I1,r1,q1⟩:=zz;exact hc pins s1 σ H1 vs us Q I1 r1 q1) he hpl
theorem Zj (hc:Zz12 X (.type T) r) (hg:Gl X x) (hm:X.mg x=none) (hv:bootBuiltins x=some (.type T)) (ha:PA X (e::es) t) (hn:x≠"__name__":=by decide) (hdb:(x == ("__debug__":Str))=false:=by decide)
  (he:starEach (e::es) X.env=(false,eval e X.env)::starEach es X.env:=by rfl)(hpl:(backTo pos<|starEach es X.env).any (·.1)=false:=by rfl):PE X (.Call (.Name x p) (e::es) [] pos) (tCB r t):=by intro pins s σ H Q I h;refine Y0y (Zw2 I hg hm hv ?_ hn hdb);exact Yy08 (thn (ha pos pins s σ H _ I h) λus s1 zz=>by obtain⟨vs,H1,I1,r1,q1⟩:=zz;exact hc pins s1 σ H1 vs us Q I1 r1 q1) he hpl
end
end L2
namespace HT
open PySem PyProof.Rows
noncomputable def lexLt:List Int->List Int->Bool
 |[],[]=>false
 |[],_::_=>true
 |_::_,[]=>false
 |x::xs,y::ys=>if x=y then lexLt xs ys else decide (x<y)
theorem lexLt_cons(x y:Int)(xs ys:List Int):lexLt (x::xs) (y::ys)=if x=y then lexLt xs ys else decide (x<y):=rfl
section
variable{prog:Program}{w:World}{A:Around}{E:Value->Shared->Prop}{s:Shared}
theorem cat_tup{vs ws:List Value}{Q:Value->Shared->Prop}(ht:IsTup s.heap t vs.toArray)(hb:IsTup s.heap b ws.toArray)(hv:vs≠[])
  (h1:ws=[]->Q (.ref t) s)(h2:ws≠[]->Q (.ref s.heap.objs.size) {s with heap:=s.heap.push {cls:=.type "tuple",data:=.seq (vs++ws).toArray} })
  (hsz:vs.length+ws.length<=sizeLine):wpAny (model prog w) A (binaryOp .Add (.ref t)<|.ref b) Q E s:=by
 obtain⟨⟨cls,dd,data,sl⟩,ho,hc,n,hd⟩:=id ht;obtain⟨⟨cls2,dd2,data2,sl2⟩,ho2,hc2,n2,hd2⟩:=id hb;simp only at hc hd hc2 hd2;subst hc hd hc2 hd2;have e:vs.toArray++ws.toArray=(vs++ws).toArray:=B
 by_cases hw:ws=[]
 ·exact Y3m ⟨_,ho,Z⟩ ⟨_,ho2,Z⟩ Y3k seq_tuple_add Yy26 Yy20 (Y1R _ _)
   (tuple_addW1 t b vs.toArray ws.toArray n n2 dd dd2 sl sl2 (by simpa using hv)<|by simp[hw]) ⟨ho,ho2,h1 hw⟩
 ·refine Y3m ⟨_,ho,Z⟩ ⟨_,ho2,Z⟩ Y3k seq_tuple_add Yy26 Yy20 (Y1R _ _)
   (tuple_addW2 t b vs.toArray ws.toArray n n2 dd dd2 sl sl2 (by simpa using hv) (by simpa using hw)<|by rwa[Ya,Ya]) ⟨ho,ho2,?_⟩
  rw[e];exact h2 hw
noncomputable def sIx(n d:Nat):Option Int->Nat
 |none=>d
 |some v=>if v<0 then (v+(n:Int)).toNat else min v.toNat n
theorem sIx_none(n d:Nat):sIx n d none=d:=rfl
end
end HT
namespace L2
open PySem PySem.Spec PyProof.Rows
noncomputable abbrev TO:=St->Hp->(Option Int->Hp->Prop)->Prop
noncomputable def PO(X:Cx)(e:Option Expr)(t:TO):Prop:=
 ∀(pins:List (Addr×Obj))(s:Shared)(σ:St)(H:Hp)(Q:Option Int->Hp->Prop),Inv X pins σ H s->t σ H Q->
  wpAny (model X.prog X.w) X.A (evalPart e X.env) (λu s'=>∃o H',Inv X pins σ H' s'/\IsPart u o/\Q o H') X.xe s
noncomputable def ZR10:TO:=λ_ H Q=>Q none H
noncomputable def ZU13(t:TE):TO:=λσ H Q=>t σ H λx H1=>∃i,x=.int i/\Q (some i) H1
section
variable{X:Cx}{e:Expr}{te:TE}{lo hi:Option Expr}{tl th:TO}{pos p2:Pos}
theorem Zo1:PO X none ZR10:=by intro pins s σ H Q I h;rw[evalPart_none];exact Yh ⟨none,H,I,.none,h⟩
theorem Zn1(h:PE X e te):PO X (some e) (ZU13 te):=by intro pins s σ H Q I hw;rw[evalPart_some];refine thn (h pins s σ H _ I hw) λu s1 hz0=>?_;obtain⟨x,H1,I1,r1,q1⟩:=hz0;obtain⟨i,rfl,q⟩:=q1;obtain⟨t,rfl⟩:=r1;exact⟨some i,H1,I1,.int i t,q⟩
noncomputable def SlR(X:Cx)(r:V->Option Int->Option Int->Hp->VK->Prop):Prop:=
 ∀(pins:List (Addr×Obj))(s:Shared)(σ:St)(H:Hp)(x:V)(v vl vu:Value)(lo hi:Option Int)(sl:Addr)(Q:VK),Inv X pins σ H s->RelV x v->s.heap.IsSliceOf sl vl vu .none->IsPart vl lo->IsPart vu hi->r x lo hi H Q->
  ∃T id,typeLookup (.type T) "__getitem__"=pure (some<|.builtin id)/\s.TypeIs v T/\wpAny (model X.prog X.w) X.A (getItem v<|.ref sl) (EP X pins σ Q) X.xe s
noncomputable def tSl(r:V->Option Int->Option Int->Hp->VK->Prop)(te:TE)(tl th:TO):TE:=λσ H Q=>te σ H λx H1=>tl σ H1 λl H2=>th σ H2 λu H3=>r x l u H3 Q
theorem ZW{r:V->Option Int->Option Int->Hp->VK->Prop}(hr:SlR X r)(he:PE X e te)(hl:PO X lo tl)(hu:PO X hi th):PE X (.Subscript e (.Slice lo hi none p2) pos) (tSl r te tl th):=by
 intro pins s σ H Q I h;refine Subscript_ (thn (he pins s σ H _ I h) λv s1 hz0=>?_);obtain⟨x,H1,I1,r1,q1⟩:=hz0;refine wpAny_Slice (thn (hl pins s1 σ H1 _ I1 q1) λvl s2 zz=>?_);obtain⟨l,H2,I2,pl,q2⟩:=zz;refine thn (hu pins s2 σ H2 _ I2 q2) λvu s3 hz0=>?_;obtain⟨u,H3,I3,pu,q3⟩:=hz0;rw[evalPart_none];refine Yh ?_;have I4:Inv X pins σ H3 {s3 with heap:=s3.heap.push {cls:=.type "slice",data:=.fields #[vl,vu,.none]} }:=I3.kept (t':=s3.toks) λb ob q=>Yy5 _ q
 obtain⟨T,id,hT,ht,hg⟩:=hr pins {s3 with heap:=s3.heap.push {cls:=.type "slice",data:=.fields #[vl,vu,.none]} } σ H3 x v vl vu l u s3.heap.objs.size Q I4 r1 (Heap.IsSliceOf.new ..) pl pu q3;show wpAny (model X.prog X.w) X.A (subscriptTail e (.Slice lo hi none p2) v<|.ref s3.heap.objs.size) (EP X pins σ Q) X.xe {s3 with heap:=s3.heap.push {cls:=.type "slice",data:=.fields #[vl,vu,.none]} }
 exact tail_any (ops:=[.ref s3.heap.objs.size,v]) ht hT hg (by with_unfolding_all rfl)
noncomputable def cutV(xs:List V)(lo hi:Option Int):List V:=(xs.drop<|HT.sIx xs.length 0 lo).take (HT.sIx xs.length xs.length hi-HT.sIx xs.length 0 lo)
theorem ZV1(xs:List V)(lo hi:Option Int):(cutV xs lo hi).length<=xs.length:=by unfold cutV;rw[Yp,Y0k];lia
noncomputable def ZK13(K:PySem.W.Frag):R2:=λx y H Q=>∃a b xs ys,x=.ref a/\y=.ref b/\SqT K H a xs/\SqT K H b ys/\xs≠[]/\xs.length+ys.length<=sizeLine/\
 (ys=[]->Q (.ref a) H)/\(ys≠[]->∀p,H p=none->Q (.ref p) (upd H p<|.tup<|xs++ys))
theorem Vals.nil_iff(r:Vals xs us):us=[]↔xs=[]:=by
 cases r with
 |nil=>simp
 |cons _ _=>simp
theorem Zr11:OpR X (binaryOp .Add) (ZK13 X.K):=by intro pins s σ H x y v u Q I rx ry h;obtain⟨a,b,xs,ys,rfl,rfl,ha,hb,hx,hz,q1,q2⟩:=h;cases rx;cases ry;obtain⟨its,r1,p1,_⟩:=I.tuple ha;obtain⟨its2,r2,p2,_⟩:=I.tuple hb;refine HT.cat_tup p1 p2 (λz=>hx<|r1.nil_iff.mp z) (λz=>⟨.ref a,H,I,Z,q1<|r2.nil_iff.mp z⟩) (λz=>?_) (by rwa[<-r1.length,<-r2.length]);refine⟨.ref s.heap.objs.size,_,I.laid (t':=s.toks) (o:=.tup<|xs++ys) (λb ob q=>Yy5 _ q) (Yy6 _) ?_,Z,q2 (λw=>z<|r2.nil_iff.mpr w) _<|I.hok.fresh<|Yy6 _⟩;exact⟨by rw[Yy3];exact hz,_,r1.append r2,IsTup.new _ _⟩
end
noncomputable def ixN(n:Nat)(i:Int):Option Nat:=if 0<=i then (if i<n then some i.toNat else none) else if -(n:Int)<=i then some (i+n).toNat else none
noncomputable def atI{α:Type}(xs:List α)(i:Int):Option α:=(ixN xs.length i).bind λj=>xs[j]?
theorem Zq8{j:Nat}(h:ixN n i=some j):seqIndex? i n=some j/\j<n/\-(n:Int)<=i/\i<n:=by
 unfold ixN at h;by_cases h0:0<=i
 ·rw[if_pos h0]at h;by_cases h1:i<n
  ·rw[if_pos h1]at h;have e:i.toNat=j:=Yl h
   exact⟨by rw[seqIndex_of h0 h1,e],O,O,h1⟩
  ·rw[if_neg h1]at h;cases h
 ·rw[if_neg h0]at h;by_cases h1:-(n:Int)<=i
  ·rw[if_pos h1]at h;have e:(i+n).toNat=j:=Yl h
   exact⟨by rw[seqIndex_neg O h1,e],O,h1,O⟩
  ·rw[if_neg h1]at h;cases h
theorem Zz87{α:Type}{xs:List α}{i:Int}{v:α}(h:atI xs i=some v):∃j,seqIndex? i xs.length=some j/\xs[j]?=some v/\j<xs.length/\-(xs.length:Int)<=i/\i<xs.length:=by
 unfold atI at h;cases e:ixN xs.length i with
 |none=>rw[e]at h;cases h
 |some j=>
  rw[e]at h;obtain⟨h1,h2,h3,h4⟩:=Zq8 e;exact⟨j,h1,h,h2,h3,h4⟩
noncomputable def Yz12(b:Expr):Prop:=∀o i,subscripted b false o i=operate [o,i] (getItem o i)
noncomputable def IxR(X:Cx)(r:R2):Prop:=
 ∀(value slice:Expr)(pins:List (Addr×Obj))(s:Shared)(σ:St)(H:Hp)(x y:V)(v u:Value)(Q:VK),Inv X pins σ H s->RelV x v->RelV y u->r x y H Q->
  subscripted slice false v u=operate [v,u] (getItem v u)->wpAny (model X.prog X.w) X.A (subscriptTail value slice v u) (EP X pins σ Q) X.xe s
noncomputable def MtR(X:Cx)(id:String)(r:V->List V->Hp->VK->Prop):Prop:=
 ∀(pins:List (Addr×Obj))(s:Shared)(σ:St)(H:Hp)(x:V)(xs:List V)(v:Value)(us:List Value)(Q:VK),Inv X pins σ H s->RelV x v->Vals xs us->r x xs H Q->
  wpAny (model X.prog X.w) X.A (call (.builtin id)<|v::us) (EP X pins σ Q) X.xe s
section
variable{X:Cx}{a b:Expr}{ta tb:TE}{pos:Pos}
theorem ZC(hr:IxR X r)(ha:PE X a ta)(hb:PE X b tb)(hs:Yz12 b):PE X (.Subscript a b pos) (tOp r ta tb):=by intro pins s σ H Q I h;exact Subscript_ (binT ha hb I h λv u s2 x y H2 I2 rx ry q=>hr a b pins s2 σ H2 x y v u Q I2 rx ry q<|hs _ _)
noncomputable def rIxL(K:PySem.W.Frag):R2:=λx y H Q=>∃p xs i v,x=.ref p/\y=.int i/\SqL K H p xs/\atI xs i=some v/\Q v H
noncomputable def rIxT(K:PySem.W.Frag):R2:=λx y H Q=>∃p xs i v,x=.ref p/\y=.int i/\SqT K H p xs/\atI xs i=some v/\Q v H
noncomputable def rIxS:R2:=λx y H Q=>∃z i c,x=.str z/\y=.int i/\z.length<=sizeLine/\atI z.cps.toList i=some c/\Q (.str ⟨#[c]⟩) H
theorem ZR11:IxR X (rIxL X.K):=by
 intro value slice pins s σ H x y v u Q I rx ry h hs;obtain⟨p,xs,i,z,rfl,rfl,hq,he,q⟩:=h;cases rx;obtain⟨t,rfl⟩:=ry;obtain⟨its,r,pl,hz⟩:=I.list hq;obtain⟨j,h1,h2,h3,h4,h5⟩:=Zz87 he;obtain⟨w,ew,rw'⟩:=r.get h2;have hl:=r.length
 have hn:=Zz14;have fin:EP X pins σ Q w s:=⟨z,H,I,rw',q⟩
 by_cases h0:0<=i
 ·have hj:i.toNat=j:=by rw[seqIndex_of h0 h5]at h1;exact Yl h1
  exact item_listR pl.isList h0 O (by rw[hj];simpa using ew) fin hs
 ·have hj:(i+(its.toArray.size:Int)).toNat=j:=by rw[seqIndex_neg O h4]at h1;rw[Ya,<-hl];exact Yl h1
  exact subscriptTail_builtinR (x:=w) pl.isList.typeIs slot_list_getitem.lookup
   (wpAny_getItem_list_neg (Q:=λr s'=>r=w/\EP X pins σ Q r s') pl.isList XT (by rw[Ya]<;>lia) O (by rw[hj];simpa using ew) ⟨rfl,fin⟩) hs
theorem Zt13:IxR X (rIxT X.K):=by
 intro value slice pins s σ H x y v u Q I rx ry h hs;obtain⟨p,xs,i,z,rfl,rfl,hq,he,q⟩:=h;cases rx;obtain⟨t,rfl⟩:=ry;obtain⟨its,r,pl,hz⟩:=I.tuple hq;obtain⟨j,h1,h2,h3,h4,h5⟩:=Zz87 he;obtain⟨w,ew,rw'⟩:=r.get h2;have hl:=r.length
 have hn:=Zz14;have fin:EP X pins σ Q w s:=⟨z,H,I,rw',q⟩
 exact subscriptTail_builtinR (x:=w) pl.typeIs slot_tuple_getitem.lookup
  (getItem_tuple (j:=j) (Q:=λr s'=>r=w/\EP X pins σ Q r s') pl O O (by rwa[Ya,<-hl]) (by simpa using ew) ⟨Z,fin⟩) hs
theorem Zu13:IxR X rIxS:=by
 intro value slice pins s σ H x y v u Q I rx ry h hs;obtain⟨z,i,c,rfl,rfl,hz,he,q⟩:=h;obtain⟨t,rfl⟩:=rx;obtain⟨t',rfl⟩:=ry;obtain⟨j,h1,h2,h3,h4,h5⟩:=Zz87 he;have hl:z.cps.toList.length=z.length:=by simp[Str.length]
 rw[hl]at h1 h4 h5;have hn:=Zz14
 exact tail_any (Y2G s z t) slot_str_getitem.lookup (getItem_str (c:=c) (by
  have e1:decide (i < -(2^63:Int))=false:=YR O;have e2:decide (i >= 2^63)=false:=YR O
  rw[e1,e2,Bool.or_false]) (by rw[h1];simpa using h2) ⟨.str ⟨#[c]⟩,H,I.tok _,⟨_,Z⟩,q⟩) hs
theorem Zj6 (its:List Value) (n j:Nat) (u:Value):Obj.mapSeq (·.setIfInBounds j u) {cls:=.type "list",data:=.seq its.toArray n}={cls:=.type "list",data:=.seq (its.set j u).toArray n}:=by simp[Obj.mapSeq]
theorem Inv.lst{pins:List (Addr×Obj)}{σ:St}{H:Hp}{s:Shared}{p:Addr}{xs:List V}(I:Inv X pins σ H s)(h:H p=some (.lst xs)):
  ∃(its:List Value)(n:Nat),Vals xs its/\s.heap.get? p=some {cls:=.type "list",data:=.seq its.toArray n}/\xs.length<=sizeLine:=by obtain⟨z,its,n,r,e⟩:=I.hok p _ h;exact⟨its,n,r,e,z⟩
theorem Inv.lstUpd{p:Addr}{xs ys:List V}{its its':List Value}{f:Obj->Obj}(I:Inv X pins σ H s)(h:H p=some (.lst xs))
  (ho:s.heap.get? p=some {cls:=.type "list",data:=.seq its.toArray n})(hf:f {cls:=.type "list",data:=.seq its.toArray n}={cls:=.type "list",data:=.seq its'.toArray n'})(r:Vals ys its')(hz:ys.length<=sizeLine)(t:Nat):
  Inv X pins σ (upd H p<|.lst ys) {s with heap:=s.heap.update p f,toks:=t}:=by
 have e:(s.heap.update p f).get? p=some {cls:=.type "list",data:=.seq its'.toArray n'}:=by rw[Yy02 f ho (by rw[hf]<;>rfl),hf]
 refine I.write (x:=p) (e:=p) (by rw[h];trivial) (.inl Z) (λb u hb q=>(Y0O _ _<|YU hb).trans q) ⟨_,e⟩ ?_;exact⟨hz,its',n',r,e⟩
noncomputable def Ze14:V->V->V->Hp->(Hp->Prop)->Prop:=λo i v H Q=>∃p xs k j,o=.ref p/\i=.int k/\H p=some (.lst xs)/\ixN xs.length k=some j/\Q (upd H p<|.lst<|xs.set j v)
theorem Zt1:PSet X Ze14:=by
 intro pins s σ H o i v ov iv u Q I ro ri rv h;obtain⟨p,xs,k,j,rfl,rfl,hp,hj,q⟩:=h;cases ro;obtain⟨t,rfl⟩:=ri;obtain⟨its,n,r,ho,hz⟩:=I.lst hp;obtain⟨h1,h2,h3,h4⟩:=Zq8 hj;have hl:=r.length
 have hn:=Zz14;have I':Inv X pins σ (upd H p<|.lst<|xs.set j v) {s with heap:=s.heap.update p (Obj.mapSeq (·.setIfInBounds j u))}:=
  I.lstUpd hp ho (Zj6 its n j u) (r.set rv j) (by rwa[Y0i]) s.toks
 by_cases h0:0<=k
 ·have hk:k.toNat=j:=by rw[seqIndex_of h0 h4]at h1;exact Yl h1
  exact PySem.W.ki_setAt ho h0 O (by rwa[Ya,<-hl]) (by rw[hk];exact⟨_,I',q⟩)
 ·have hk:(k+(its.toArray.size:Int)).toNat=j:=by rw[seqIndex_neg O h3]at h1;rw[Ya,<-hl];exact Yl h1
  exact PySem.W.ki_setBack ho XT (by rwa[Ya,<-hl]) O (by rw[hk];exact⟨_,I',q⟩)
theorem ZO3(lo hi:Option Int)(n:Nat):(sliceBounds lo hi none n).1=((HT.sIx n 0 lo:Nat):Int)/\(sliceBounds lo hi none n).2.1=((HT.sIx n n hi:Nat):Int)/\(sliceBounds lo hi none n).2.2=1:=by
 refine⟨?_,?_,Z⟩
 ·cases lo with
  |none=>simp[sliceBounds,HT.sIx]
  |some i=>
   simp only[sliceBounds,HT.sIx,Option.getD_none,show(1:Int)>0 by decide,Y3l];by_cases h:i<0
   ·simp only[h,Y3l]<;>grind
   ·simp only[h,if_false]<;>grind
 ·cases hi with
  |none=>simp[sliceBounds,HT.sIx]
  |some i=>
   simp only[sliceBounds,HT.sIx,Option.getD_none,show(1:Int)>0 by decide,Y3l];by_cases h:i<0
   ·simp only[h,Y3l]<;>omega
   ·simp only[h,if_false]<;>omega
theorem Zk3(its:List Value)(lo hi:Option Int):slicePick its.toArray lo hi none=((its.drop (HT.sIx its.length 0 lo)).take (HT.sIx its.length its.length hi-HT.sIx its.length 0 lo)).toArray:=by obtain⟨h1,h2,h3⟩:=ZO3 lo hi its.toArray.size;unfold slicePick;rw[h1,h2,h3];simp only[sliceRange_one,pick_run,Ya]<;>rfl
noncomputable def rSlL(K:PySem.W.Frag):V->Option Int->Option Int->Hp->VK->Prop:=λx lo hi H Q=>∃a xs,x=.ref a/\SqL K H a xs/\∀p,H p=none->Q (.ref p) (upd H p<|.lst<|cutV xs lo hi)
theorem ZX10:SlR X (rSlL X.K):=by
 intro pins s σ H x v vl vu lo hi sl Q I rx hs pl pu h;obtain⟨a,xs,rfl,hx,q⟩:=h;cases rx;obtain⟨its,r,ht,hz⟩:=I.list hx;have hlen:=r.length
 refine⟨"list",_,slot_list_getitem.lookup,ht.isList.typeIs,?_⟩;refine wpAny_getItem_list_slice ht.isList hs pl pu .none B ?_ (by rw[Ya]<;>lia)
 rw[Zk3,<-hlen];refine⟨.ref s.heap.objs.size,_,I.laid (t':=s.toks) (o:=.lst<|cutV xs lo hi) (λb ob q=>Yy5 _ q) (Yy6 _) ?_,Z,q _<|I.hok.fresh<|Yy6 _⟩;exact⟨Yv (ZV1 xs lo hi) hz,_,0,(r.drop<|HT.sIx xs.length 0 lo).take (HT.sIx xs.length xs.length hi-HT.sIx xs.length 0 lo),Yk _ Z⟩
noncomputable def Zz54:V->Bool
 | .non=>true
 | .bl _=>true
 | .int _=>true
 | .str _=>true
 |_=>false
noncomputable def eqV:V->V->Bool
 | .non,.non=>true
 | .bl a,.bl b=>a == b
 | .bl a,.int b=>(if a then 1 else 0) == b
 | .int a,.bl b=>a == (if b then 1 else 0)
 | .int a,.int b=>a == b
 | .str a,.str b=>a == b
 |_,_=>false
theorem Zz712(ry:RelV y u)(rx:RelV x v)(fy:Zz54 y=true)(fx:Zz54 x=true):SeqAt.EqAt A s u v (eqV y x):=by
 cases y with
 |non=>
  cases ry;cases x with
  |non=>cases rx;exact SeqAt.EqAt.same _
  |bl b=>cases rx;exact SeqAt.EqAt.none_bool b
  |int b=>obtain⟨t,rfl⟩:=rx;exact SeqAt.EqAt.none_int b t
  |str b=>obtain⟨t,rfl⟩:=rx;exact SeqAt.EqAt.none_str b t
  |_=>exact absurd (show false=true from fx) Yo
 |bl a=>
  cases ry;cases x with
  |non=>cases rx;exact SeqAt.EqAt.bool_none a
  |bl b=>cases rx;exact SeqAt.EqAt.bool_bool a b
  |int b=>obtain⟨t,rfl⟩:=rx;exact SeqAt.EqAt.bool_int a b t
  |str b=>obtain⟨t,rfl⟩:=rx;exact SeqAt.EqAt.bool_str a b t
  |_=>exact absurd (show false=true from fx) Yo
 |int a=>
  obtain⟨t',rfl⟩:=ry;cases x with
  |non=>cases rx;exact SeqAt.EqAt.int_none a t'
  |bl b=>cases rx;exact SeqAt.EqAt.int_bool a t' b
  |int b=>obtain⟨t,rfl⟩:=rx;exact SeqAt.EqAt.int_int a t' b t
  |str b=>obtain⟨t,rfl⟩:=rx;exact SeqAt.EqAt.int_str a t' b t
  |_=>exact absurd (show false=true from fx) Yo
 |str a=>
  obtain⟨t',rfl⟩:=ry;cases x with
  |non=>cases rx;exact SeqAt.EqAt.str_none a t'
  |bl b=>cases rx;exact SeqAt.EqAt.str_bool a t' b
  |int b=>obtain⟨t,rfl⟩:=rx;exact SeqAt.EqAt.str_int a t' b t
  |str b=>obtain⟨t,rfl⟩:=rx;exact SeqAt.EqAt.str_str a t' b t
  |_=>exact absurd (show false=true from fx) Yo
 |_=>exact absurd (show false=true from fy) Yo
noncomputable def eqU(x:V)(u:Value):Bool:=match u with
 | .none=>eqV .non x
 | .bool b=>eqV (.bl b) x
 | .int i _=>eqV (.int i) x
 | .str z _=>eqV (.str z) x
 |_=>false
theorem Zz612(r:RelV y u)(f:Zz54 y=true):eqU x u=eqV y x:=by
 cases y with
 |non=>cases r;rfl
 |bl b=>cases r;rfl
 |int i=>obtain⟨t,rfl⟩:=r;rfl
 |str z=>obtain⟨t,rfl⟩:=r;rfl
 |_=>exact absurd (show false=true from f) Yo
theorem ZP8{xs:List V}{us:List Value}(h:Vals xs us)(f:xs.all Zz54=true):us.any (eqU x)=xs.any λy=>eqV y x:=by
 induction h with
 |nil=>rfl
 |cons r t ih=>
  rw[List.all_cons,Y0P]at f;rw[Y2a,Y2a,Zz612 r f.1,ih f.2]
theorem Zg6(rx:RelV x v)(fx:Zz54 x=true){xs:List V}{us:List Value}(h:Vals xs us)(f:xs.all Zz54=true):∀u∈us,SeqAt.EqAt A s u v (eqU x u):=by
 induction h with
 |nil=>intro u hu;cases hu
 |cons r t ih=>
  intro u' hu;rw[List.all_cons,Y0P]at f;rcases Ye.mp hu with rfl|hu
  ·rw[Zz612 r f.1];exact Zz712 r rx f.1 fx
  ·exact ih f.2 u' hu
noncomputable def inV(x:V)(xs:List V):Bool:=xs.any λy=>eqV y x
noncomputable def rIn(K:PySem.W.Frag)(neg:Bool):R2:=λx y H Q=>∃p xs,y=.ref p/\(SqL K H p xs\/SqT K H p xs)/\Zz54 x=true/\xs.all Zz54=true/\Q (.bl<|if neg then !inV x xs else inV x xs) H
theorem Zs7:OpR X (compareOp .In) (rIn X.K false):=by
 intro pins s σ H x y v u Q I rx ry h;obtain⟨p,xs,rfl,hq,fx,fs,q⟩:=h;cases ry;rcases hq with hq|hq
 ·obtain⟨its,r,pl,hz⟩:=I.list hq;refine SeqAt.in_listAt (eqU x) pl.isList (λw hw=>Zg6 rx fx r fs w<|by simpa using hw) ⟨.bl _,H,I,Z,?_⟩;rwa[show its.toArray.any (eqU x)=its.any (eqU x) by simp,ZP8 r fs]
 ·obtain⟨its,r,pl,hz⟩:=I.tuple hq;refine SeqAt.in_tupleAt (eqU x) pl (λw hw=>Zg6 rx fx r fs w<|by simpa using hw) ⟨.bl _,H,I,Z,?_⟩;rwa[show its.toArray.any (eqU x)=its.any (eqU x) by simp,ZP8 r fs]
theorem Zg4:Zz12 X (.builtin "len") (λxs H Q=>∃p ys,xs=[.ref p]/\(SqL X.K H p ys\/SqT X.K H p ys)/\Q (.int ys.length) H):=by
 intro pins s σ H xs us Q I r h;obtain⟨p,ys,rfl,hq,q⟩:=h;obtain⟨u,rfl,rx⟩:=Ze3 r;cases rx;have hn:=Zz14
 rcases hq with hq|hq
 ·obtain⟨its,r',pl,hz⟩:=I.list hq;have hlen:=r'.length
  exact Calls.call_len_list pl.isList (by simp only[Ya]<;>lia) ⟨.int ys.length,H,I.tok _,⟨s.toks+1,by rw[Ya,hlen]⟩,q⟩
 ·obtain⟨its,r',pl,hz⟩:=I.tuple hq;have hlen:=r'.length
  exact len_tuple pl (by simp only[Ya]<;>omega) ⟨.int ys.length,H,I.tok _,⟨s.toks+1,by rw[Ya,hlen]⟩,q⟩
theorem Zf4:Zz12 X (.builtin "len") (λxs H Q=>∃z,xs=[.str z]/\z.length<=sizeLine/\Q (.int z.length) H):=by
 intro pins s σ H xs us Q I r h;obtain⟨z,rfl,hz,q⟩:=h;obtain⟨u,rfl,t,rfl⟩:=Ze3 r;have hn:=Zz14
 exact len_str O ⟨.int z.length,H,I.tok _,⟨_,Z⟩,q⟩
theorem Ze4:Zz12 X (.type "list") (λxs H Q=>∃p ys,xs=[.ref p]/\(SqL X.K H p ys\/SqT X.K H p ys)/\∀l,H l=none->Q (.ref l) (upd H l (.lst ys))):=by
 intro pins s σ H xs us Q I r h;obtain⟨p,ys,rfl,hq,q⟩:=h;obtain⟨u,rfl,rx⟩:=Ze3 r;cases rx;have fin:∀(its:List Value),Vals ys its->ys.length<=sizeLine->∀(h':Heap)(c':Nat),(∀b o',s.heap.get? b=some o'->h'.get? b=some o')->
   h'.get? s.heap.objs.size=some {cls:=.type "list",dict:=none,data:=.seq its.toArray c',slots:=#[]}->EP X pins σ Q (.ref s.heap.objs.size) {s with heap:=h'}:=λits r' hz h' c' kp e=>
  ⟨.ref s.heap.objs.size,_,I.laid (t':=s.toks) kp (Yy6 _)<|show ObjOk X.prog X.w _ h' _ (.lst ys) from⟨hz,its,c',r',e⟩,Z,q _<|I.hok.fresh<|Yy6 _⟩
 rcases hq with hq|hq
 ·obtain⟨its,r',pl,hz⟩:=I.list hq;have hlen:=r'.length
  obtain⟨o,ho,hc,n,hd⟩:=pl.isList;exact call_list_seq p (.inl rfl) ho hc hd (λh' c' kp e=>fin its r' hz h' c' kp e) (by simp only[Ya]<;>omega)
 ·obtain⟨its,r',pl,hz⟩:=I.tuple hq;have hlen:=r'.length
  obtain⟨o,ho,hc,n,hd⟩:=pl;exact call_list_seq p (.inr rfl) ho hc hd (λh' c' kp e=>fin its r' hz h' c' kp e) (by simp only[Ya]<;>omega)
theorem ZD3:Zz12 X (.type "tuple") (λxs H Q=>∃p ys,xs=[.ref p]/\((SqL X.K H p ys/\∀l,H l=none->Q (.ref l) (upd H l (.tup ys)))\/(SqT X.K H p ys/\Q (.ref p) H))):=by
 intro pins s σ H xs us Q I r h;obtain⟨p,ys,rfl,h⟩:=h;obtain⟨u,rfl,rx⟩:=Ze3 r;cases rx;rcases h with ⟨hq,q⟩|⟨hq,q⟩
 ·obtain⟨its,r',pl,hz⟩:=I.list hq;have hlen:=r'.length
  refine call_tuple_list pl.isList (λh' kp=>?_) (by simp only[Ya]<;>omega)
  have I1:Inv X pins σ H {s with heap:=h'}:=I.kept (t':=s.toks) kp;have I2:Inv X pins σ (upd H h'.objs.size<|.tup ys) {s with heap:=h'.push {cls:=.type "tuple",data:=.seq its.toArray} }:=
   I1.laid (t':=s.toks) (λb o e=>Yy5 _ e) (Yy6 _) (show ObjOk X.prog X.w _ _ _ (.tup ys) from⟨hz,its,r',IsTup.new _ _⟩)
  exact⟨.ref h'.objs.size,_,I2,Z,q _<|I1.hok.fresh<|Yy6 _⟩
 ·obtain⟨its,r',pl,hz⟩:=I.tuple hq;exact call_tuple_same pl ⟨.ref p,H,I,Z,q⟩
noncomputable def tyV(K:PySem.W.Frag)(T:String)(x:V)(H:Hp):Prop:=match x with
 | .str _=>T="str"
 | .int _=>T="int"
 | .ref p=>(T="list"/\∃xs,SqL K H p xs)\/(T="tuple"/\∃o,K.lookup p=some o/\o.cls=.type "tuple"/\o.dict=none)\/
   (T="dict"/\((∃kvs,H p=some (.dK kvs))\/∃kvs,H p=some (.dT kvs)))\/(T="set"/\∃XW n,H p=some (.set XW n))
 |_=>False
theorem ZM10(I:Inv X pins σ H s)(r:RelV x v)(ty:tyV X.K T x H):
  s.TypeIs v T/\∀a,v=.ref a->∃ob,s.heap.get? a=some ob/\ob.dict=none:=by
 cases x with
 |str z=>
  obtain⟨t,rfl⟩:=r;cases (show T="str" from ty);exact⟨Y2G s z t,λ_ e=>nomatch e⟩
 |int i=>
  obtain⟨t,rfl⟩:=r;cases (show T="int" from ty);exact⟨typeIs_int s i t,λ_ e=>nomatch e⟩
 |ref p=>
  cases r;rcases ty with ⟨rfl,xs,hq⟩|⟨rfl,o,hk,hc,hd⟩|⟨rfl,hk⟩|⟨rfl,XW,n,hk⟩
  ·obtain⟨its,_,pl,_⟩:=I.list hq;refine⟨pl.isList.typeIs,λa e=>?_⟩;cases e;obtain⟨o,n,e,c,hd,_⟩:=pl;exact⟨o,e,hd⟩
  ·refine⟨⟨o,I.kIn p o hk,hc⟩,λa e=>?_⟩;cases e;exact⟨o,I.kIn _ o hk,hd⟩
  ·have z:∃o,s.heap.get? p=some o/\o.ExactDict:=by
    rcases hk with ⟨kvs,hk⟩|⟨kvs,hk⟩
    ·obtain⟨_,_,_,_,o,_,_,e,ex,_⟩:=I.hok p _ hk;exact⟨o,e,ex⟩
    ·obtain⟨_,_,_,_,o,_,_,e,ex,_⟩:=I.hok p _ hk;exact⟨o,e,ex⟩
   obtain⟨o,e,ex⟩:=z;refine⟨⟨o,e,ex.1⟩,λa e2=>?_⟩;cases e2;exact⟨o,e,ex.2.1⟩
  ·obtain⟨o,_,_,_,e,ex,_⟩:=I.hok p _ hk;refine⟨⟨o,e,ex.1⟩,λa e2=>?_⟩;cases e2;exact⟨o,e,ex.2.1⟩
 |_=>exact False.elim ty
noncomputable def tBM0(K:PySem.W.Frag)(T:String)(r:V->List V->Hp->VK->Prop)(to:TE):TE:=λσ H Q=>to σ H λx H1=>tyV K T x H1/\r x [] H1 Q
noncomputable def tBM(K:PySem.W.Frag)(T:String)(r:V->List V->Hp->VK->Prop)(to:TE)(t:TA):TE:=λσ H Q=>to σ H λx H1=>tyV K T x H1/\t σ H1 λxs H2=>r x xs H2 Q
variable{o e:Expr}{es:List Expr}{to:TE}{t:TA}{name:Str}{apos cpos:Pos}{T id:String}{r:V->List V->Hp->VK->Prop}
theorem Zf13 (pa:PlainAttrs T) (slot:Slot T name id) (hty:typeOf (.builtin id)=pure (.type "method_descriptor")) (hm:MtR X id r) (ho:PE X o to)
  (hbase:attributeBase o name X.env (eval o X.env)=eval o X.env:=by rfl)(hline:(apos.endLine == cpos.line)=true:=by rfl):PE X (.Call (.Attribute o name apos) [] [] cpos) (tBM0 X.K T r to):=by intro pins s σ H Q I h;refine wpAny_Call_method0_late hbase hline (thn (ho pins s σ H _ I h) λv s1 hz0=>?_);obtain⟨x,H1,I1,r1,ty,q1⟩:=hz0;obtain⟨h1,h2⟩:=ZM10 I1 r1 ty;exact⟨T,id,pa,slot,hty,h1,h2,Calls.callWith_builtin Z<|PySem.evalArgs_none<|hm pins s1 σ H1 x [] v [] Q I1 r1 .nil q1⟩
theorem Zl14 (pa:PlainAttrs T) (slot:Slot T name id) (hty:typeOf (.builtin id)=pure (.type "method_descriptor")) (hm:MtR X id r) (ho:PE X o to) (ha:PA X (e::es) t)
  (hbase:attributeBase o name X.env (eval o X.env)=eval o X.env:=by rfl)
  (hfew:((backTo cpos<|starEach (e::es) X.env).all (λx=>!x.1)&&(backToKw cpos<|keywordEach [] X.env).all (λx=>x.1.isSome)
   && decide ((e::es).length+([]:List Keyword).length+(if ([]:List Keyword).isEmpty then 0 else 1)<30))=true:=by rfl)
  (hline:(apos.endLine == cpos.line)=true:=by rfl)(hs:starEach (e::es) X.env=(false,eval e X.env)::starEach es X.env:=by rfl)(hplain:(backTo cpos<|starEach es X.env).any (·.1)=false:=by rfl):
  PE X (.Call (.Attribute o name apos) (e::es) [] cpos) (tBM X.K T r to t):=by
 intro pins s σ H Q I h;refine wpAny_Call_method_late hbase hfew hline Z (thn (ho pins s σ H _ I h) λv s1 hz0=>?_);obtain⟨x,H1,I1,r1,ty,q1⟩:=hz0;obtain⟨h1,h2⟩:=ZM10 I1 r1 ty;refine⟨T,id,pa,slot,hty,h1,h2,?_⟩;have hA:=ha cpos pins s1 σ H1 _ I1 q1
 rw[hs]at hA ⊢;refine Calls.callWith_builtin (by show(false||(backTo cpos<|starEach es X.env).any (·.1))=false;rw[hplain]<;>rfl) (Calls.evalArgs_plain ?_)
 exact thn hA λus s2 zz=>by obtain⟨vs,H2,I2,r2,q2⟩:=zz;exact hm pins s2 σ H2 x vs v us Q I2 r1 r2 q2
end
noncomputable def MtM(X:Cx)(id:String)(r:V->List V->Hp->VK->Prop):Prop:=
 ∀(pins:List (Addr×Obj))(s:Shared)(σ:St)(H:Hp)(x:V)(xs:List V)(v:Value)(us:List Value)(Q:VK),Inv X pins σ H s->RelV x v->Vals xs us->r x xs H Q->
  wpAny (model X.prog X.w) X.A (call (.builtin id)<|v::us) (EP X pins σ Q) X.xe s
theorem Vals.one{x:V}{us:List Value}(r:Vals [x] us):∃u,us=[u]/\RelV x u:=by
 cases r with
 |cons a r=>cases r;exact⟨_,Z,a⟩
theorem Vals.eraseIdx{xs:List V}{us:List Value}(i:Nat)(h:Vals xs us):Vals (xs.eraseIdx i) (us.eraseIdx i):=by
 induction h generalizing i with
 |nil=>exact .nil
 |cons r t ih=>
  cases i with
  |zero=>exact t
  |succ i=>exact .cons r (ih i)
theorem Vals.rep(h:Vals xs us):∀k:Nat,Vals (List.replicate k xs).flatten (List.replicate k us).flatten
 |0=>.nil
 |k+1=>by rw[Y0F,Y0F,Y1x,Y1x];exact Vals.append h (Vals.rep h k)
theorem ZF4{α:Type}:∀(l:List α)(i:Nat),(l.eraseIdx i).length<=l.length
 |[],_=>Yy6 _
 |_::_,0=>Y0W _
 |_::r,i+1=>Nat.succ_le_succ (ZF4 r i)
theorem ZN4(its:List Value):∀(k:Nat)(acc:List Value),
  List.foldl (λx1 x2=>x1++x2) acc.toArray (List.replicate k its.toArray)=(acc++(List.replicate k its).flatten).toArray
 |0,acc=>B
 |k+1,acc=>by
  have e:acc.toArray++its.toArray=(acc++its).toArray:=B;have e2:(acc++its)++(List.replicate k its).flatten=acc++(List.replicate (k+1) its).flatten:=by rw[Y0F,Y1x,Y0A]
  rw[<-e2,<-ZN4 its k (acc++its),<-e,Y0F,Y2e]
section
variable{X:Cx}{pins:List (Addr×Obj)}{σ:St}{H:Hp}{s:Shared}{l:Addr}{xs ys:List V}
theorem Inv.lset{its its':List Value}{f:Array Value->Array Value}{t':Nat}(I:Inv X pins σ H s)(hH:H l=some (.lst xs))
  (e:s.heap.get? l=some {cls:=.type "list",data:=.seq its.toArray n})(hf:f its.toArray=its'.toArray)(hv:Vals ys its')(hz:ys.length<=sizeLine):
  Inv X pins σ (upd H l<|.lst ys) {s with heap:=s.heap.update l<|Obj.mapSeq f,toks:=t'}:=by have q:=PySem.IsL.update e f;rw[hf]at q;refine I.write (x:=l) (e:=l) (by rw[hH];exact trivial) (.inl Z) (λb' u hb hu=>(Y0O s.heap (Obj.mapSeq f)<|YU hb).trans hu) ⟨_,q⟩ ?_;exact⟨hz,its',_,hv,q⟩
theorem Inv.lnew{t':Nat}(I:Inv X pins σ H s)(hv:Vals ys its)(hz:ys.length<=sizeLine):
  Inv X pins σ (upd H s.heap.objs.size<|.lst ys) {s with heap:=s.heap.push {cls:=.type "list",data:=.seq its.toArray},toks:=t'}:=
 I.laid (λ_ _ q=>Yy5 _ q) (Yy6 _) ⟨hz,its,0,hv,Yk _ Z⟩
theorem Inv.fresh(I:Inv X pins σ H s):H s.heap.objs.size=none:=I.hok.fresh (Yy6 _)
theorem Inv.lstM (I:Inv X pins σ H s) (hH:H l=some (.lst xs)):xs.length<=sizeLine/\∃(its:List Value)(n:Nat),Vals xs its/\xs.length=its.length/\s.heap.get? l=some {cls:=.type "list",data:=.seq its.toArray n}:=by obtain⟨z,its,n,r,e⟩:=I.hok l _ hH;exact⟨z,its,n,r,r.length,e⟩
theorem Zc6(h:n<=sizeLine):Builtin.List.listTooLong n=false:=by unfold Builtin.List.listTooLong;exact YR O
end
section
variable{X:Cx}
noncomputable def Zb11:V->List V->Hp->VK->Prop:=λx vs H Q=>∃l xs y,x=.ref l/\vs=[y]/\H l=some (.lst xs)/\xs.length<sizeLine/\Q .non (upd H l<|.lst<|xs++[y])
theorem Zz91:MtM X "list.append" Zb11:=by intro pins s σ H x vs v us Q I rx rv h;obtain⟨l,xs,y,rfl,rfl,hH,hz,q⟩:=h;cases rx;obtain⟨u,rfl,ru⟩:=rv.one;obtain⟨z,its,n,r,hl,e⟩:=I.lstM hH;refine Yy23 F.slot_list_append ⟨_,e,Z⟩ F.entry_list_append (F.args_list_append_2 _ _) (PySem.list_append l its.toArray n u<|by rw[Ya];lia) ⟨e,?_⟩;refine⟨.non,_,I.lset (its':=its++[u]) hH e B (r.append<|.cons ru .nil) ?_,Z,q⟩;rw[Yy3,Yw];lia
noncomputable def Za11:V->List V->Hp->VK->Prop:=λx vs H Q=>∃l b xs zs,x=.ref l/\vs=[.ref b]/\H l=some (.lst xs)/\H b=some (.lst zs)/\xs.length+zs.length<=sizeLine/\Q .non (upd H l<|.lst<|xs++zs)
theorem Zw7:MtM X "list.extend" Za11:=by
 intro pins s σ H x vs v us Q I rx rv h;obtain⟨l,b,xs,zs,rfl,rfl,hH,hB,hz,q⟩:=h;cases rx;obtain⟨u,rfl,ru⟩:=rv.one;cases ru;obtain⟨z,its,n,r,hl,e⟩:=I.lstM hH;obtain⟨z2,its2,n2,r2,hl2,e2⟩:=I.lstM hB;have hsz:its.toArray.size+its2.toArray.size<=sizeLine:=by rw[Ya,Ya];grind
 have hlong:¬(!its.toArray.isEmpty&&Builtin.List.listTooLong (its.toArray.size+its2.toArray.size))=true:=by rw[Zc6 hsz,Bool.and_false];exact Yo
 refine Yy23 F.slot_list_extend ⟨_,e,Z⟩ F.entry_list_extend (F.args_list_extend_2 _ _)
  (AutoSeq1.list_extend_list_list_0 l its.toArray n b its2.toArray n2 hlong (by rw[Ya];grind) O) ⟨e,e2,?_⟩
 refine⟨.non,_,I.lset (its':=its++its2) hH e B (r.append r2) ?_,Z,q⟩;rw[Yy3];lia
noncomputable def Zz613:V->List V->Hp->VK->Prop:=λx vs H Q=>∃l xs i k y,x=.ref l/\vs=[.int i]/\H l=some (.lst xs)/\-(2^63)<=i/\i<2^63/\seqIndex? i xs.length=some k/\xs[k]?=some y/\Q y (upd H l<|.lst<|xs.eraseIdx k)
theorem ZK9:MtM X "list.pop" Zz613:=by
 intro pins s σ H x vs v us Q I rx rv h;obtain⟨l,xs,i,k,y,rfl,rfl,hH,h1,h2,hk,hy,q⟩:=h;cases rx;obtain⟨u,rfl,ru⟩:=rv.one;obtain⟨t,rfl⟩:=ru;obtain⟨z,its,n,r,hl,e⟩:=I.lstM hH;obtain⟨w,hw,rw'⟩:=r.get hy;refine Yy23 F.slot_list_pop ⟨_,e,Z⟩ F.entry_list_pop (F.args_list_pop_2 _ _)
  (MeetsSeq.list_pop_at l its.toArray n i t k w (fitsIndex_both h1 h2) (by rwa[Ya,<-hl]) (by rwa[<-Yy01])<|by rw[Ya];lia) ⟨e,?_⟩
 refine⟨y,_,I.lset (its':=its.eraseIdx k) hH e ?_ (r.eraseIdx k) ?_,rw',q⟩
 ·show its.toArray.eraseIdxIfInBounds k=(its.eraseIdx k).toArray;rw[List.eraseIdxIfInBounds_toArray]
 ·have:=ZF4 xs k
  lia
noncomputable def rCat:R2:=λx y H Q=>∃l b xs zs,x=.ref l/\y=.ref b/\H l=some (.lst xs)/\H b=some (.lst zs)/\xs.length+zs.length<=sizeLine/\∀p,H p=none->Q (.ref p) (upd H p<|.lst<|xs++zs)
theorem Zt7:OpR X (binaryOp .Add) rCat:=by
 intro pins s σ H x y v u Q I rx ry h;obtain⟨l,b,xs,zs,rfl,rfl,hH,hB,hz,q⟩:=h;cases rx;cases ry;obtain⟨z,its,n,r,hl,e⟩:=I.lstM hH;obtain⟨z2,its2,n2,r2,hl2,e2⟩:=I.lstM hB;refine PySem.P.add_list e e2 ?_ (by rw[Ya,Ya];omega);have ea:its.toArray++its2.toArray=(its++its2).toArray:=B
 rw[ea];exact⟨.ref _,_,I.lnew (t':=s.toks) (r.append r2) (by rw[Yy3];omega),Z,q _ I.fresh⟩
noncomputable def rRep:R2:=λx y H Q=>∃l k xs,x=.ref l/\y=.int k/\H l=some (.lst xs)/\-(2^63)<=k/\k<2^63/\xs.length*k.toNat<=sizeLine/\
 ∀p,H p=none->Q (.ref p) (upd H p<|.lst (List.replicate k.toNat xs).flatten)
theorem ZH11{α:Type}(xs:List α)(k:Nat):(List.replicate k xs).flatten.length=k*xs.length:=by
 induction k with
 |zero=>simp
 |succ k ih=>rw[Y0F,Y1x,Yy3,ih,Nat.succ_mul,Nat.add_comm]
theorem Zo11:OpR X (binaryOp .Mult) rRep:=by
 intro pins s σ H x y v u Q I rx ry h;obtain⟨l,k,xs,rfl,rfl,hH,h1,h2,hz,q⟩:=h;cases rx;obtain⟨t,rfl⟩:=ry;obtain⟨z,its,n,r,hl,e⟩:=I.lstM hH;have hlen:its.toArray.size*k.toNat<=sizeLine:=by rwa[Ya,<-hl]
 have hcap:¬its.toArray.size*k.toNat>(2^63-1)/8:=by
  have:(sizeLine:Nat)<=(2^63-1)/8:=J
  grind
 have hfit:¬(!Builtin.List.listFitsIndex k)=true:=by rw[fitsIndex_both h1 h2];exact Yo
 have hlong:¬Builtin.List.listTooLong (its.toArray.size*k.toNat)=true:=by rw[Zc6 hlen];exact Yo
 have hnew:List.foldl (λx1 x2=>x1++x2) #[] (List.replicate (if its.toArray.isEmpty=true then 0 else k.toNat) its.toArray)=(List.replicate k.toNat its).flatten.toArray:=by
  have f0:∀m:Nat,List.foldl (λx1 x2=>x1++x2) #[] (List.replicate m its.toArray)=(List.replicate m its).flatten.toArray:=λm=>by
   have:=ZN4 its m []
   rwa[Y1L]at this
  rw[f0];cases its with
  |nil=>simp
  |cons a r'=>rw[if_neg B]
 refine wpAny_binaryOp_repeat_ref (T:="list") (U:="int") J ⟨_,e,Z⟩ (λs'=>typeIs_int s' k t) noFill_list_mul F.fills_int_mul F.slot_int_rmul repeat_list F.slot_int_index.lookup
  (Yy23 F.slot_int_rmul (typeIs_int s k t) F.entry_int_rmul (F.args_int_rmul_2 _ _) (int___rmul___int_list k t l its.toArray n)
   ⟨e,Z,⟨_,e,Z⟩,Yy23 F.slot_list_mul ⟨_,e,Z⟩ F.entry_list_mul (F.args_list_mul_2 _ _) (AutoListH.list___mul___list_int_3 l its.toArray n k t hfit hcap hlong) ⟨e,?_⟩⟩)
 rw[hnew];exact⟨.ref _,_,I.lnew (t':=s.toks) (r.rep k.toNat) (by rwa[ZH11,Y2L]),Z,q _ I.fresh⟩
end
section
variable{κ:Type}[DecidableEq κ]
noncomputable def valV(kvs:List (κ×V))(k:κ):Option V:=(kvs.find? λkv=>decide<|kv.1=k).map (·.2)
noncomputable def putK(kvs:List (κ×V))(k:κ)(v:V):List (κ×V):=
 if (kvs.any λkv=>decide<|kv.1=k)=true then kvs.map (λkv=>if kv.1=k then (kv.1,v) else kv) else kvs++[(k,v)]
theorem ZJ3{p:κ×V}{r:List (κ×V)}(e:p.1=k):valV (p::r) k=some p.2:=by simp[valV,Y2f,e]
theorem ZK3{p:κ×V}(e:¬p.1=k):valV (p::r) k=valV r k:=by simp[valV,Y2f,e]
theorem Zx5(k:κ):∀kvs:List (κ×V),(kvs.any λkv=>decide (kv.1=k))=(valV kvs k).isSome
 |[]=>rfl
 |p::r=>by
  rw[Y2a];by_cases e:p.1=k
  ·simp only[ZJ3 e,YG e,Bool.true_or,Option.isSome_some]
  ·rw[ZK3 e,YR e,Bool.false_or];exact Zx5 k r
theorem Zg5(kvs:List (κ×V))(k:κ)(v:V):(putK kvs k v).length<=kvs.length+1:=by
 unfold putK;split
 ·rw[Yy9];lia
 ·rw[Yy3,Yq,Y1M];lia
theorem Zj9{kvs:List (κ×V)}{k:κ}(v:V)(h:valV kvs k=none):putK kvs k v=kvs++[(k,v)]:=by unfold putK;rw[Zx5,h];exact if_neg J
theorem KV.val(r:KV kvs vs)(k:κ):RelO (valV kvs k) (valueAt vs k):=by
 unfold KV at r
 induction r with
 |nil=>exact True.intro
 |@cons p q ps qs h t ih=>
  obtain⟨h1,h2⟩:=h;by_cases e:p.1=k
  ·have e':q.1=k:=h1.symm.trans e;have b:valueAt (q::qs) k=some q.2:=by simp[valueAt,Y2f,e']
   rwa[ZJ3 e,b]
  ·have e':¬q.1=k:=λz=>e (h1.trans z);have b:valueAt (q::qs) k=valueAt qs k:=by simp[valueAt,Y2f,e']
   rwa[ZK3 e,b]
theorem KV.any(r:KV kvs vs)(k:κ):(kvs.any λkv=>decide (kv.1=k))=vs.any λkv=>decide (kv.1=k):=by
 unfold KV at r
 induction r with
 |nil=>rfl
 |cons h t ih=>rw[Y2a,Y2a,ih,h.1]
theorem KV.repl(r:KV kvs vs)(k:κ)(ry:RelV y u):
  KV (kvs.map λkv=>if kv.1=k then (kv.1,y) else kv) (vs.map λkv=>if kv.1=k then (kv.1,u) else kv):=by
 unfold KV at r ⊢
 induction r with
 |nil=>exact .nil
 |@cons p q ps qs h t ih=>
  rw[QP,QP];refine .cons ?_ ih;obtain⟨h1,h2⟩:=h;by_cases e:p.1=k
  ·rw[if_pos e,if_pos (h1.symm.trans e)];exact⟨h1,ry⟩
  ·rw[if_neg e,if_neg λz=>e (h1.trans z)];exact⟨h1,h2⟩
theorem KV.put(r:KV kvs vs)(k:κ)(ry:RelV y u):KV (putK kvs k y) (stored vs k u):=by
 unfold putK stored;rw[r.any k];by_cases e:(vs.any λkv=>decide<|kv.1=k)=true
 ·rw[if_pos e,if_pos e];exact r.repl k ry
 ·rw[if_neg e,if_neg e];exact Paired.snoc r ⟨Z,ry⟩
theorem KV.length{kvs:List (κ×V)}{vs:List (κ×Value)}(r:KV kvs vs):kvs.length=vs.length:=Paired.length r
end
theorem Yz14(r:RelV (kV k) u):(Zh1 P w).is k u=true:=by
 cases k with
 |inl i=>obtain⟨t,e⟩:=(show ∃t,u=Value.int i t from r);subst e;exact Zf5 P w i t
 |inr x=>obtain⟨t,e⟩:=(show ∃t,u=Value.str x t from r);subst e;exact Ze5 P w x t
section
variable{P:Program}{w:World}{H:Hp}{h:Heap}{a:Addr}
theorem Zd14(ok:HOk P w H h)(e:Rd H a u):ObjOk P w H h a u:=e.ok ok
theorem ZG14(ok:HOk P w H h)(e:Rd H a (.dK kvs)):kvs.length<=sizeLine/\(a == sysModules)=false/\∃vs,KV kvs vs/\h.DictOf (Zh1 P w) a vs:=
 show ObjOk P w H h a (.dK kvs) from Zd14 ok e
theorem Zx13(ok:HOk P w H h)(e:H a=some (.dK kvs)):kvs.length<=sizeLine/\(a == sysModules)=false/\∃vs,KV kvs vs/\h.DictOf (Zh1 P w) a vs:=ZG14 ok (.inl e)
end
section
variable{X:Cx}{pins:List (Addr×Obj)}{σ:St}{H:Hp}{s:Shared}{a:Addr}
theorem Inv.big(I:Inv X pins σ H s):sysModules<s.heap.objs.size:=by have h:mainGlobals<s.heap.objs.size:=(I.mod.glob.keeps I.bk).lt;exact Nat.lt_trans J h
theorem Zl12{t':Nat}(I:Inv X pins σ H s)(mu:Mut (H a))(hs:Heap.SameBut a s.heap h')(he:∃q,h'.get? a=some q)(new:ObjOk X.prog X.w (upd H a ob) h' a ob):
  Inv X pins σ (upd H a ob) {s with heap:=h',toks:=t'}:=
 I.write (x:=a) (e:=a) mu (.inl Z) (λb q hb z=>(hs.2 b hb).trans z) he new
theorem Zy13(z:kvs.length<=sizeLine)(hd:(a == sysModules)=false)(rel:KV kvs vs)(dd:h'.DictOf (Zh1 P w) a vs):
  ObjOk P w H' h' a (.dK kvs):=⟨z,hd,vs,rel,dd⟩
end
theorem Zk10 (h:Heap) (hb:sysModules<h.objs.size):ObjOk P w H (h.push {cls:=.type "dict",data:=.dict #[]}) h.objs.size (.dK []):=
 ⟨Yr _,Y0C.mpr<|YU<|Ym hb,[],.nil,Heap.DictOf.new h⟩
noncomputable def ZS12:TE:=λ_ H Q=>∀p,H p=none->Q (.ref p) (upd H p<|.dK [])
section
variable{X:Cx}{pos:Pos}
theorem Zv9:PE X (.Dict [] [] pos) ZS12:=λpins s σ H Q I h=>
 wpAny_Dict_empty ⟨.ref s.heap.objs.size,_,I.laid (a:=s.heap.objs.size) (o:=.dK []) (t':=s.toks) (λ_ _ q=>Yy5 _ q) (Yy6 _)<|Zk10 s.heap I.big,Z,h _<|I.hok.fresh<|Yy6 _⟩
end
end L2
namespace Att
open PySem PySem.W PySem.Calls PyProof.Rows
theorem Zx2:∀(ns:List Int)(vs:List Value),WellAll P h vs (ns.map WData.int)->IntsAre vs ns:=by
 intro ns
 induction ns with
 |nil=>
  intro vs w;rw[List.map_nil]at w;cases w;exact .nil
 |cons n ns ih=>
  intro vs w;rw[QP]at w;cases w with
  |cons a b=>
   cases a;exact .cons _ _ (ih _ b)
theorem Zk7{l:OpenLaw}{n:Nat}(hn:l.most=some n) 
  (hpre:l.row.toRowW.claim.pre args=true)(hwl:WellAll P h vals args):
  ∃a vs ns,vals=[Value.ref a]/\args=[WData.list (ns.map WData.int)]/\h.get? a=some {cls:=.type "list",data:=.seq vs.toArray}/\IntsAre vs ns/\ns.length<=n:=by
 have hsh:WShape.hasAll [] args [.list .int]=true:=(pre_splitW hpre).1;have hc:l.pre.holds [] {args:=args}=true:=(pre_splitW hpre).2
 obtain⟨d,r,rfl,h1,h2⟩:=hasAllW_cons hsh;obtain rfl:=hasAllW_nil h2;obtain⟨xs,rfl,h3⟩:=hasW_list h1;obtain⟨ns,rfl⟩:=items_int h3;have hlen:ns.length<=n:=by
  unfold OpenLaw.pre at hc;have h4:(WTm.not<|.lt (.lit<|.int (n:Int))<|.len<|.arg 0).holds [] {args:=[.list (ns.map .int)]}=true:=by have h4:=(holds_andW hc).1;rwa[hn]at h4
  have h5:=condW_of h4 (w_not<|w_lt w_lit<|w_len_list<|w_arg Z);rw[Yy9]at h5;refine Y1E λq=>?_;have q':(n:Int)<((ns.length:Nat):Int):=XT
  first
   | (rw[YG q']at h5;exact absurd h5 J)
   | (simp at h5;omega)
 cases hwl with
 |cons w1 w2=>
  cases w2;cases w1 with
  |list ho hall=>exact⟨_,_,ns,Z,Z,ho,Zx2 ns _ hall,hlen⟩
theorem Zp7(l:OpenLaw)(args:List WData):l.row.toRowW.claim.post args (.bool true) args=true:=
 postW_of (r:=l.row.toRowW) (X:=(true == true))
  (show WShape.has [] (.bool true) .bool=true by first|rfl|decide|simp[WShape.has,WShape.arms,WShape.armsAll])
  (show(WTm.eq .res<|.lit<|.bool true).value [] {args:=args,res:=some<|.bool true,after:=args}=some (.bool<|true == true) from w_eq_bool (w_res Z) w_lit) rfl
theorem attach_call{l:OpenLaw}{n:Nat}{XP:(Str->Option Value)->Heap->Prop}{YP:World->Heap->Prop} 
  (hn:l.most=some n)(hdf:d.params.defaults=[])
  (call:∀(w:World)(s₀ s₁:Shared)(mg mb:Str->Option Value)(fa:Addr)(o:Obj)(pm cd doc:Value)(a:Addr)(vs:List Value)(ns:List Int),
   Ground q loose [] XP w s₀ mg mb s₁.heap->YP w s₁.heap->
   s₁.heap.get? fa=some o->o.data=.func (docDef d.name d.params d.body d.scope pm cd doc)->s₁.heap.CodeRec cd d.name->mg d.name=some (.ref fa)->
   s₁.heap.get? a=some {cls:=.type "list",data:=.seq vs.toArray}->IntsAre vs ns->ns.length<=n->s₁.gens=#[]->
   codeAny (model l.prog w) callerA (.call (.ref fa) ⟨[.ref a],[]⟩) (λr s'=>r=.ok (.ret<|.bool true)/\OldK s₁.heap s'.heap/\s'.os=s₁.os/\AllBare s'.gens) s₁):
  WalkO q loose XP YP l.row.toRowW d [] (λf vs=>PySem.call f vs):=by intro w s₀ s₁ mg mb G Y fa o pm cd doc dV kV ho hd hcd hD hmg hg args vals as hpre hlay hrd hwl hlo;obtain rfl:dV=.none:=Dflts.none hD hdf;obtain rfl:kV=.none:=Dflts.noKw hD;obtain⟨a,vs,ns,rfl,rfl,hobj,hints,hlen⟩:=Zk7 hn hpre hwl;refine enter_call (Y1B (call w s₀ s₁ mg mb fa o pm cd doc a vs ns G Y ho (fd_plain hd) hcd hmg hobj hints hlen hg) λr s' hq=>?_);obtain⟨rfl,h2,h3,h4⟩:=hq;exact⟨.inl ⟨.bool true,.bool true,[],Z,λ_=>rfl,.bool true,Zp7 l _,λ_=>⟨List.Pairwise.nil,λ_ hm=>(nomatch hm)⟩⟩,h2,h3,h4⟩
section
noncomputable def Zy14(h:Heap)(L d:Addr):List (Addr×Obj):=(List.range h.objs.size).filterMap λa=>if a=L\/a=d then none else (h.get? a).map λo=>(a,o)
end
end Att
namespace L2
open PySem PySem.Spec PyProof.Rows
theorem Zc7{vs:List Value}{ns:List Int}(h:IntsAre vs ns):Vals (ns.map V.int) vs:=by
 induction h with
 |nil=>exact .nil
 |cons n t h ih=>exact .cons ⟨t,Z⟩ ih
noncomputable def Only(H:Hp):Prop:=∀b,H b=none\/∃o xs,H b=some (.frz o<|.lst xs)
theorem ZV9{P:Program}{w:World}{K:PySem.W.Frag}{mg mb:Str->Option Value}{CX:CXT}{k:Nat}{fa a:Addr}{fd:FuncData}{x:Str}{sp:Sp}{s₁:Shared}{vs:List Value}{ns:List Int}
  (KX:K.In s₁.heap)(hns:s₁.heap.Ns mainGlobals mg)(hb:s₁.heap.Ns builtinsNs mb)(hbb:∀x:Str,x≠"__name__"->mb x=bootBuiltins x)(hlim:s₁.heap.NoLimit)(hg:s₁.gens=#[])
  (ha:s₁.heap.get? a=some {cls:=.type "list",data:=.seq vs.toArray})(hi:IntsAre vs ns)(hl:ns.length<=sizeLine)(hr:Room k callerA)
  (F:∀base:Heap,K.In base->base.Ns mainGlobals mg->FnOk P w K mg base CX k fa fd [x] sp)(hbind:∀(s:Shared)(u:Value),BindsTo s fd ⟨[u],[]⟩ [(x,u)])
  (hsp:∀H:Hp,Only H->SqL K H a (ns.map V.int)->sp [.ref a] H (λv _=>v=.bl true) λ_ _ _=>False)
  (hCX:∀H e s',CX [] H s₁ (λ_ _ _=>False) e s'->False):
  codeAny (model P w) callerA (.call (.ref fa) ⟨[.ref a],[]⟩) (λr s'=>r=.ok (.ret<|.bool true)/\OldK s₁.heap s'.heap/\s'.os=s₁.os/\AllBare s'.gens) s₁:=by
 have rv:=Zc7 hi;have lenV:=hi.length
 have core:∀H:Hp,Only H->SqL K H a (ns.map V.int)->HOk P w H s₁.heap->(∀b,H b≠none->b=a)->(H a≠none->K.lookup a=none)->
   codeAny (model P w) callerA (.call (.ref fa) ⟨[.ref a],[]⟩) (λr s'=>r=.ok (.ret<|.bool true)/\OldK s₁.heap s'.heap/\s'.os=s₁.os/\AllBare s'.gens) s₁:=by
  intro H hO hS hok hA hK;have base_of:∀{b:Addr}{o:Obj},s₁.heap.get? b=some o->H b=none->(hidT s₁.heap H).get? b=some o:=λe n=>Zz310 e n
  have noA:∀{b:Addr}{o:Obj}{es:Array DictEntry}{ep:Nat},s₁.heap.get? b=some o->o.data=.dict es ep->H b=none:=λ{b o es ep} e d=>by
   cases q:H b with
   |none=>rfl
   |some u=>
    have e':b=a:=hA b (by rw[q];simp);subst e';rw[ha]at e;cases e;have d':Data.seq vs.toArray _=Data.dict es ep:=d
    cases d'
  have nsK:∀{b:Addr}{m:Str->Option Value},s₁.heap.Ns b m->(hidT s₁.heap H).Ns b m:=λ{b m} ⟨o,es,ep,e,d,r⟩=>⟨o,es,ep,base_of e<|noA e d,d,r⟩;have hKb:K.In (hidT s₁.heap H):=λb o e=>base_of (KX b o e) (by
   cases q:H b with
   |none=>rfl
   |some u=>
    have e':b=a:=hA b (by rw[q];simp);subst e';rw[hK (by rw[q];simp)]at e;cases e)
  have hM:Mod K mg (hidT s₁.heap H):=⟨hKb,nsK hns,⟨mb,nsK hb,hbb⟩,by obtain⟨mc,h1,h2⟩:=hlim;exact⟨mc,nsK h1,h2⟩⟩;have e0:Env0 P w K mg (hidT s₁.heap H) callerA [] s₁ H:=⟨Z,hM,λb o e=>Zs11 e,Nat.le_of_eq<|ZH7 _ _,trivial,λb hb=>absurd (show b∈([]:List Addr) from hb) B,hok,.of_eq hg⟩
  refine Y1B ((F _ hKb<|nsK hns).run callerA [] s₁ H ⟨[.ref a],[]⟩ [.ref a] [.ref a] _ _ hr e0 (hbind s₁<|.ref a) (.cons Z .nil) (hsp H hO hS)) λr s' h=>?_;cases r with
  |error e=>exact(hCX H e s' h).elim
  |ok fl=>
   cases fl with
   |next=>exact False.elim h
   |brk=>exact False.elim h
   |cont=>exact False.elim h
   |ret u=>
    obtain⟨v,H',os,bare,un,hok',r',q⟩:=h;have q':v=.bl true:=q
    subst q';obtain rfl:u=Value.bool true:=r';refine⟨Z,OldK.of_keep λb o e=>?_,os,bare⟩;cases q:H b with
    |none=>exact un.keep b o e q (by intro z;exact absurd (show b∈([]:List Addr) from z) B) B
    |some u=>
     rcases hO b with z|⟨ob,xs,z⟩
     ·rw[q]at z;cases z
     ·have z2:=un.frzs b ob _ z;obtain⟨e1,_⟩:=hok b _ z;obtain⟨e2,_⟩:=hok' b _ z2;rw[e]at e1;cases e1;exact e2
 cases hk:K.lookup a with
 |some o=>
  have e:=KX a o hk;rw[ha]at e;cases e;refine core (λ_=>none) (λ_=>.inl Z) (.inr ⟨_,vs.toArray,_,hk,Z,Z,Z,by rw[Ya,lenV];exact hl,by simpa using rv⟩) (λb u z=>by have z':(none:Option HO)=some u:=z;cases z') (λb z=>absurd Z z) λz=>absurd Z z
 |none=>
  refine core (λb=>if b=a then some (.frz {cls:=.type "list",data:=.seq vs.toArray} (.lst<|ns.map V.int)) else none) (λb=>?_) (.inl<|.inr ⟨{cls:=.type "list",data:=.seq vs.toArray},if_pos Z⟩) (λb u z=>?_) (λb z=>?_) λ_=>hk
  ·by_cases hb:b=a
   ·exact .inr ⟨_,_,if_pos hb⟩
   ·exact .inl (if_neg hb)
  ·by_cases hb:b=a
   ·have z':=(if_pos hb).symm.trans z;cases z';subst hb;exact⟨ha,by rw[Yy9];exact hl,vs,_,rv,ha⟩
   ·have z':=(if_neg hb).symm.trans z;cases z'
  ·by_cases hb:b=a
   ·exact hb
   ·exact absurd (if_neg hb) z
noncomputable abbrev KOf{K:PySem.W.Frag}{h:Heap}(_:K.In h):PySem.W.Frag:=K
theorem ZK10{l:PySem.W.OpenLaw}{n k:Nat}{XP:(Str->Option Value)->Heap->Prop}{YP:World->Heap->Prop}{K:Params->PySem.W.Frag}{CX:World->CXT}{sp:World->Sp}{x:Str}
  (hn:l.most=some n)(hn2:n<=sizeLine)(hdf:d.params.defaults=[])(hr:Room k callerA)
  (hY:∀(w:World)(h:Heap),YP w h->(K w.params).In h)
  (F:∀(w:World)(mg:Str->Option Value)(fa:Addr)(h:Heap),(K w.params).In h->h.Ns mainGlobals mg->mg d.name=some (.ref fa)->
   ∃fd:FuncData,(∀(s:Shared)(u:Value),BindsTo s fd ⟨[u],[]⟩ [(x,u)])/\
    ∀base:Heap,(K w.params).In base->base.Ns mainGlobals mg->FnOk l.prog w (K w.params) mg base (CX w) k fa fd [x] (sp w))
  (hsp:∀(w:World)(H:Hp)(a:Addr)(ns:List Int),ns.length<=n->Only H->SqL (K w.params) H a (ns.map V.int)->sp w [.ref a] H (λv _=>v=.bl true) λ_ _ _=>False)
  (hCX:∀(w:World)(H:Hp)(s:Shared)(e:Value)(s':Shared),CX w [] H s (λ_ _ _=>False) e s'->False):
  PySem.W.WalkO q loose XP YP l.row.toRowW d [] (λf vs=>PySem.call f vs):=by
 refine Att.attach_call hn hdf λw s₀ s₁ mg mb fa o pm cd doc a vs ns G Y ho hd hcd hmg hobj hints hlen hg=>?_;have KX:=hY w _ Y
 obtain⟨fd,hb,hF⟩:=F w mg fa _ KX G.T.g hmg;exact ZV9 KX G.T.g G.T.b G.T.builtins G.T.nolimit hg hobj hints (Yv hlen hn2) hr hF hb (λH hO hS=>hsp w H a ns hlen hO hS) λH e s'=>hCX w H s₁ e s'
theorem walk_ofK{l:PySem.W.OpenLaw}{n k:Nat}{XP:(Str->Option Value)->Heap->Prop}{YP:World->Heap->Prop}{K:Params->PySem.W.Frag}{sp:PySem.W.Frag->Sp}{x:Str}
  (hn:l.most=some n)(hn2:n<=sizeLine)(hdf:d.params.defaults=[])(hr:Room k callerA)
  (hY:∀(w:World)(h:Heap),YP w h->(K w.params).In h)
  (F:∀(w:World)(mg:Str->Option Value)(fa:Addr)(h:Heap),(K w.params).In h->h.Ns mainGlobals mg->mg d.name=some (.ref fa)->
   ∃fd:FuncData,(∀(s:Shared)(u:Value),BindsTo s fd ⟨[u],[]⟩ [(x,u)])/\
    ∀base:Heap,(K w.params).In base->base.Ns mainGlobals mg->FnOk l.prog w (K w.params) mg base CX k fa fd [x] (sp<|K w.params))
  (hsp:∀(K:PySem.W.Frag)(H:Hp)(a:Addr)(ns:List Int),ns.length<=n->Only H->SqL K H a (ns.map V.int)->sp K [.ref a] H (λv _=>v=.bl true) λ_ _ _=>False)
  (hCX:∀(H:Hp)(s:Shared)(e:Value)(s':Shared),CX [] H s (λ_ _ _=>False) e s'->False):
  PySem.W.WalkO q loose XP YP l.row.toRowW d [] (λf vs=>PySem.call f vs):=
 ZK10 (K:=K) (CX:=λ_=>CX) (sp:=λw=>sp<|K w.params) hn hn2 hdf hr hY F (λw H a ns h1 h2 h3=>hsp (K w.params) H a ns h1 h2 h3) λ_ H s e s'=>hCX H s e s'
noncomputable def ZH2(s:Stmt)(j:Nat):Stmt:=match s with
 | .ClassDef _ _ _ body _ _ _ _ _ _ _=>body.getD j (.Pass ⟨0,0,0,0⟩)
 |_=>.Pass ⟨0,0,0,0⟩
noncomputable def ZZ1(s:Stmt):Arguments:=match s with
 | .FunctionDef _ a _ _ _ _ _ _ _ _=>a
 |_=>{posonlyargs:=[],args:=[],vararg:=none,kwonlyargs:=[],kw_defaults:=[],kwarg:=none,defaults:=[]}
noncomputable def Zs1(s:Stmt):List Stmt:=match s with
 | .FunctionDef _ _ b _ _ _ _ _ _ _=>b
 |_=>[]
noncomputable def Zz9(s:Stmt):Scope:=match s with
 | .FunctionDef _ _ _ _ _ _ sc _ _ _=>sc
 |_=>{kind:=.function,names:=[],isGenerator:=false,isCoroutine:=false}
noncomputable abbrev CX0:CXT:=λ_ _ _ _ _ _=>False
noncomputable abbrev E0:XK:=λ_ _ _=>False
theorem ZB:Yz2 CX0 X E0:=λ_ _ _ _ _ _ _ h=>h.elim
structure Fun (K:PySem.W.Frag) (x qual:Str) (st:Stmt) (f:Addr) (fd:FuncData):Prop where
 ex:∃(oc:Value)(od:Option Addr)(kV doc pm:Value)(an:Option Addr)(cdv ct:Value)(osl:Array (Option Value)),
  fd=PySem.W.fnOf x qual (ZZ1 st) (Zs1 st) (Zz9 st) .none kV doc pm an cdv ct/\K.lookup f=some ⟨oc,od,.func fd,osl⟩/\PySem.W.codeIn K cdv qual=true
 kp:PySem.W.keepIn K (.ref f)=true
section
variable{P:Program}{w:World}{K:PySem.W.Frag}{mg:Str->Option Value}{base:Heap}
theorem Fun.ok{x qual:Str}{st:Stmt}{f:Addr}{fd:FuncData}{N ps:List Str}{k:Nat}{sp:Sp}(F:Fun K x qual st f fd)(XW:FnScope N ps (Zz9 st))(len:∀vs H Q E,sp vs H Q E->vs.length=ps.length)
  (hbody:∀(cdv:Value)(A:Around)(outer:List Env)(s:Shared)(H:Hp)(vs:List V)(Q:VK)(E:XK),Room k (A.deeper<|envOfC qual (Zz9 st) s.heap.objs.size f cdv)->sp vs H Q E->
   ∃t,PSs (cxOf CX0 P w K mg base N qual (Zz9 st) f cdv A outer s H E).nox (Zs1 st) t/\t {nx:=λ_ H'=>Q .non H',rt:=Q} (start N vs) H):FnOk P w K mg base CX0 (k+1) f fd ps sp:=by obtain⟨oc,od,kV,doc,pm,an,cdv,ct,osl,rfl,lk,hcd⟩:=F.ex;refine ZQ13 lk hcd XW len λA outer s H vs Q E hr hsp=>?_;obtain⟨t,h,q⟩:=hbody cdv A outer s H vs Q E hr hsp;exact⟨t,h.nox,q⟩
theorem Fun.binds{x qual:Str}{st:Stmt}{f:Addr}{fd:FuncData}{ps:List Str}(F:Fun K x qual st f fd)
  (h:∀(kV doc pm:Value)(an:Option Addr)(cdv ct:Value)(us:List Value),us.length=ps.length->bindArgs (PySem.W.fnOf x qual (ZZ1 st) (Zs1 st) (Zz9 st) .none kV doc pm an cdv ct) ⟨us,[]⟩=pure (ps.zip us)):Binds K fd ps []:=by obtain⟨oc,od,kV,doc,pm,an,cdv,ct,osl,rfl,lk,hcd⟩:=F.ex;exact .all (h kV doc pm an cdv ct)
theorem ZL7{x qual:Str}{st:Stmt}{f:Addr}{oc:Value}{od an:Option Addr}{osl:Array (Option Value)}{kV doc pm cdv ct:Value}(l:K.lookup f=some ⟨oc,od,.func (PySem.W.fnOf x qual (ZZ1 st) (Zs1 st) (Zz9 st) .none kV doc pm an cdv ct),osl⟩)
  (c:PySem.W.codeIn K cdv qual=true)(k:PySem.W.keepIn K (.ref f)=true):Fun K x qual st f (PySem.W.fnOf x qual (ZZ1 st) (Zs1 st) (Zz9 st) .none kV doc pm an cdv ct):=⟨⟨oc,od,kV,doc,pm,an,cdv,ct,osl,Z,l,c⟩,k⟩
end
section
variable{X:Cx}
theorem pv (i:Nat) {x:Str} {pos:Pos} (hN:X.N[i]?=some x:=by rfl) (hv:Vis X.env.scope x:=by first|exact Or.inl rfl|exact Or.inr (Or.inl rfl)|exact Or.inr<|Or.inr rfl) (hd:(x == ("__debug__":Str))=false:=by decide)
  (hcd:(x == ("__classdict__":Str))=false:=by decide):PE X (.Name x pos) (tVar i):=Zc13 hN hv hd hcd
end
theorem iteF{A XU:Prop}(h:XU):if false=true then A else XU:=by rwa[if_neg Yo]
theorem iteT{A XU:Prop}(h:A):if true=true then A else XU:=by rwa[if_pos Z]
theorem ite2{c A XU:Prop}[Decidable c](h1:c->A)(h2:¬c->XU):if c then A else XU:=by
 by_cases h:c
 ·rw[if_pos h];exact h1 h
 ·rw[if_neg h];exact h2 h
noncomputable def Same(H H':Hp):Prop:=∀b o,H b=some o->H' b=some o
theorem Same.refl(H:Hp):Same H H:=λ_ _ h=>h
theorem Same.trans{H H1 H2:Hp}(a:Same H H1)(b:Same H1 H2):Same H H2:=λc o h=>b c o (a c o h)
theorem Same.free(e:Same H H'){l:Addr}(h:H' l=Option.none):H l=Option.none:=by
 cases q:H l with
 |none=>rfl
 |some o=>
  rw[e l o q]at h;cases h
theorem Same.seq{K:PySem.W.Frag}{H H':Hp}{a:Addr}{xs:List V}(e:Same H H')(h:SqL K H a xs):SqL K H' a xs:=by
 rcases h with (h|⟨o,h⟩)|h
 ·exact .inl (.inl<|e _ _ h)
 ·exact .inl (.inr ⟨o,e _ _ h⟩)
 ·exact .inr h
noncomputable def PTs(X:Cx)(ifs:List Expr)(t:TT):Prop:=
 ∀pins s σ H Q,Inv X pins σ H s->t σ H Q->
  wpAny (model X.prog X.w) X.A (forIn ifs true λc r=>if r=true then do let ok <-isTrue c X.env (eval c X.env);pure (ForInStep.yield ok) else pure (ForInStep.yield r)) (TP X pins σ Q) X.xe s
noncomputable def tYes:TT:=λ_ H Q=>Q true H
theorem ZP:PTs X [] tYes:=λ_ _ _ H _ I h=>wpAny_tests_nil ⟨H,I,h⟩
theorem ZX5(hc:PT X c t):PTs X [c] t:=λpins s σ H Q I h=>wpAny_tests_one (hc pins s σ H Q I h)
theorem Zz94{R:Result->Shared->Prop}{elt target iter:Expr}{scope:Scope}{pos:Pos}{it acc:Value}(XX:Nat->Shared->Prop)
  (turn:∀n s,XX n s->wpAny (model prog w) A (pyNext it) (λr s1=>match r with
   |none=>R (.ok .next) s1
   |some v=>wpAny (model prog w) A (letOwnedTupleGo target it v) (λ_ s2=>wpAny (model prog w) A (assign target env v) (λ_ s3=>
     wpAny (model prog w) A (forIn ifs true λc r=>if r=true then do let ok <-isTrue c env (eval c env);pure (ForInStep.yield ok) else pure (ForInStep.yield r)) (λok s4=>
      if ok=true then wpAny (model prog w) A (eval elt env) (λx s5=>
       wpAny (model prog w) A (call (.builtin "list.append") [acc,x]) (λ_ s6=>∃m,m<n/\XX m s6) (λ_ _=>False) s5) (λ_ _=>False) s4
      else ∃m,m<n/\XX m s4) (λ_ _=>False) s3) (λ_ _=>False) s2) (λ_ _=>False) s1) (λ_ _=>False) s)
  (n:Nat)(h:XX n s):codeAny (model prog w) A (.compLoop (.ListComp elt [⟨target,iter,ifs,0⟩] scope pos) 0 it acc env) R s:=by
 refine codeAny_loop Z XX (λn s hI=>?_) n h;show wpAny _ A ((compTurn (.ListComp elt [⟨target,iter,ifs,0⟩] scope pos) 0 it acc env).onRaise λx=>do noteFrame x env;theTreesLotGoes x) _ _ s
 refine wpAny_noted ?_;rw[compTurn_list];refine Yy1 (Yy35<|Yy1<|Yy07 (turn n s hI) (λr s1 h1=>?_) λ_ _ z=>z.elim);cases r with
 |none=>exact Yh h1
 |some v=>
  refine Yy1 (Yy07 h1 (λ_ s2 h2=>?_) λ_ _ z=>z.elim);refine Yy1 (Yy07 h2 (λ_ s3 h3=>Yy1<|Yy07 h3 (λok s4 h4=>?_) λ_ _ z=>z.elim) λ_ _ z=>z.elim);cases ok with
  |false=>exact Yh ⟨Z,h4⟩
  |true=>
   exact Yy1 (Yy1<|Yy07 h4 (λx s5 h5=>Yy1<|Yy07 h5 (λ_ s6 h6=>Yh<|Yh ⟨Z,h6⟩) λ_ _ z=>z.elim) λ_ _ z=>z.elim)
noncomputable def Zb4(cells:List (Str×Addr)):List (Str×NameKind)->List (Str×Addr)->List (Str×Addr)
 |[],acc=>acc
 | (n,k)::r,acc=>if k == .free then Zb4 cells r ((n,(cells.lookup n).getD 0)::acc) else Zb4 cells r acc
theorem ZC3:∀names acc,(∀y∈names,y.2=.free->∃c,env.cells.lookup y.1=some c)->
  (forIn names acc λ(x:Str×NameKind) (cs:List (Str×Addr))=>(if (x.2 == .free)=true then do let a <-cellOf env x.1;pure (ForInStep.yield<|(x.1,a)::cs) else pure (ForInStep.yield cs):Sem (ForInStep<|List<|Str×Addr)))=pure (Zb4 env.cells names acc)
 |[],acc,_=>rfl
 | (n,k)::r,acc,h=>by
  have ih:=λacc=>ZC3 r acc λy hy=>h y (Yc _ hy);rw[Yy33];unfold Zb4;by_cases hk:(k == NameKind.free)=true
  ·obtain⟨c,hc⟩:=h (n,k) Yb (by simpa using hk);have e:cellOf env n=pure c:=by unfold cellOf;rw[show env.cells.lookup n=some c from hc]
   simp only[hk,Y3l,e,pure_bind];rw[ih,show env.cells.lookup n=some c from hc];rfl
  ·simp only[hk,Bool.false_eq_true,if_false,pure_bind];exact ih acc
theorem ZB3(h:∀y∈scope.names,y.2=.free->∃c,env.cells.lookup y.1=some c):closureFor scope env=pure (Zb4 env.cells scope.names []):=by have e:=ZC3 scope.names [] h;unfold closureFor;simp only[bind_pure]at e ⊢;exact e
theorem Zz53{env:Env}:∀names acc,(∀y∈names,y.2=.free->∃c,env.cells.lookup y.1=some c)->(∀x c,acc.lookup x=some c->env.cells.lookup x=some c)->
  ∀x c,(Zb4 env.cells names acc).lookup x=some c->env.cells.lookup x=some c
 |[],acc,_,ha,x,c,e=>ha x c e
 | (n,k)::r,acc,h,ha,x,c,e=>by
  unfold Zb4 at e;by_cases hk:(k == NameKind.free)=true
  ·rw[if_pos hk]at e;obtain⟨d,hd⟩:=h (n,k) Yb (by simpa using hk);refine Zz53 r _ (λy hy=>h y<|Yc _ hy) (λy b q=>?_) x c e;rw[Y0N]at q;by_cases hy:(y == n)=true
   ·rw[hy]at q;have hy':y=n:=by simpa using hy
    have hd':env.cells.lookup n=some d:=hd;rw[hd']at q;have q':d=b:=Yl q
    rw[hy',hd',q']
   ·have hy':(y == n)=false:=by simpa using hy
    rw[hy']at q;exact ha y b q
  ·rw[if_neg hk]at e;exact Zz53 r acc (λy hy=>h y<|Yc _ hy) ha x c e
theorem Zz63:∀names acc x,(acc.lookup x).isSome=true->((Zb4 cells names acc).lookup x).isSome=true
 |[],_,_,h=>h
 | (n,k)::r,acc,x,h=>by
  unfold Zb4;by_cases hk:(k == NameKind.free)=true
  ·rw[if_pos hk];refine Zz63 r _ x ?_;rw[Y0N];by_cases hx:(x == n)=true
   ·rw[hx];rfl
   ·have hx':(x == n)=false:=by simpa using hx
    rwa[hx']
  ·rw[if_neg hk];exact Zz63 r acc x h
theorem Zz92:∀names acc x,(x,NameKind.free)∈names->((Zb4 cells names acc).lookup x).isSome=true
 |[],_,_,h=>nomatch h
 | (n,k)::r,acc,x,h=>by
  unfold Zb4;rcases Ye.mp h with e|h
  ·cases e;rw[if_pos XS];refine Zz63 r _ _ ?_;rw[Y0N];simp
  ·by_cases hk:(k == NameKind.free)=true
   ·rw[if_pos hk];exact Zz92 r _ x h
   ·rw[if_neg hk];exact Zz92 r _ x h
theorem ZY{env:Env}:∀{names:List (Str×NameKind)}{x:Str}{k:NameKind},(names.map λ(n,k)=>if (k == NameKind.free&&env.scope.kind == .function&&env.kindOf n == some .cell) then (n,NameKind.cell) else (n,k)).lookup x=some k->
  (k=.cell\/k=.free)->(x,NameKind.free)∈names\/(x,NameKind.cell)∈names
 |[],_,_,h,_=>by simp at h
 | (n,q)::r,x,k,h,hk=>by
  have h':List.lookup x ((if (q == NameKind.free&&env.scope.kind == .function&&env.kindOf n == some .cell)=true then (n,NameKind.cell) else (n,q))::r.map λ(n,k)=>if (k == NameKind.free&&env.scope.kind == .function&&env.kindOf n == some .cell) then (n,NameKind.cell) else (n,k))=some k:=h;by_cases hc:(q == NameKind.free&&env.scope.kind == .function&&env.kindOf n == some .cell)=true
  ·rw[if_pos hc,Y0N]at h';have hq:q=.free:=by simp only[Y0P,Y1d]at hc;exact hc.1.1
   by_cases hx:(x == n)=true
   ·have hx':x=n:=by simpa using hx
    subst hx';subst hq;exact .inl Yb
   ·have hx':(x == n)=false:=by simpa using hx
    rw[hx']at h';rcases ZY (env:=env) h' hk with z|z
    ·exact .inl (Yc _ z)
    ·exact .inr (Yc _ z)
  ·rw[if_neg hc,Y0N]at h';by_cases hx:(x == n)=true
   ·rw[hx]at h';have hx':x=n:=by simpa using hx
    subst hx';have e:q=k:=Yl h'
    subst e;rcases hk with rfl|rfl
    ·exact .inr Yb
    ·exact .inl Yb
   ·have hx':(x == n)=false:=by simpa using hx
    rw[hx']at h';rcases ZY (env:=env) h' hk with z|z
    ·exact .inl (Yc _ z)
    ·exact .inr (Yc _ z)
theorem ZH1{env:Env}:∀{names:List (Str×NameKind)}{x:Str},names.lookup x=some .free->
  (names.map λ(n,k)=>if (k == NameKind.free&&env.scope.kind == .function&&env.kindOf n == some .cell) then (n,NameKind.cell) else (n,k)).lookup x=some .cell\/
  (names.map λ(n,k)=>if (k == NameKind.free&&env.scope.kind == .function&&env.kindOf n == some .cell) then (n,NameKind.cell) else (n,k)).lookup x=some .free
 |[],_,h=>by simp at h
 | (n,q)::r,x,h=>by
  show List.lookup x ((if (q == NameKind.free&&env.scope.kind == .function&&env.kindOf n == some .cell)=true then (n,NameKind.cell) else (n,q))::_)=_\/List.lookup x ((if (q == NameKind.free&&env.scope.kind == .function&&env.kindOf n == some .cell)=true then (n,NameKind.cell) else (n,q))::_)=_;rw[Y0N]at h;by_cases hc:(q == NameKind.free&&env.scope.kind == .function&&env.kindOf n == some .cell)=true
  ·rw[if_pos hc,Y0N];by_cases hx:(x == n)=true
   ·rw[hx];exact .inl rfl
   ·have hx':(x == n)=false:=by simpa using hx
    rw[hx']at h ⊢;exact ZH1 h
  ·rw[if_neg hc,Y0N];by_cases hx:(x == n)=true
   ·rw[hx]at h ⊢;exact .inr h
   ·have hx':(x == n)=false:=by simpa using hx
    rw[hx']at h ⊢;exact ZH1 h
noncomputable def cxC(X:Cx)(N':List Str)(scope:Scope)(C:Addr)(s:Shared)(H:Hp)(fp:List Addr):Cx where
 prog:=X.prog
 w:=X.w
 K:=X.K
 mg:=X.mg
 base:=X.base
 A:=X.A
 N:=N'
 s₀:=s
 H₀:=H
 env:=compEnvC scope (Zb4 X.env.cells scope.names []) C X.env
 outer:=X.stack
 stack:=X.stack
 ex:=fp
 fn:=λ_=>false
 calm:=X.calm
 pn:=[]
 xe:=λ_ _=>False
noncomputable def σC(o:Nat)(fr:List Nat)(σ:St):St:=List.replicate o none++fr.map λj=>(σ[j]?).join
structure CompScope (sc0:Scope) (N N':List Str) (o:Nat) (fr:List Nat) (scope:Scope):Prop where
 kind:scope.kind=.function
 nocell:(scope.names.all λy=>y.2 != .cell)=true
 loc:(scope.names.all λy=>y.2 != .local||scope.names.lookup y.1 == some .local)=true
 free:(scope.names.all λy=>y.2 != .free||sc0.names.lookup y.1 == some .cell||sc0.names.lookup y.1 == some .free)=true
 len:N'.length=o+fr.length
 sees:((List.range fr.length).all λj=>match fr[j]? with
  |none=>false
  |some y=>match N[y]? with
   |none=>false
   |some x=>N'[o+j]? == some x&&scope.names.lookup x == some .free)=true
noncomputable def LcR(XX:It)(g:TG)(tt:TT)(te:TE)(o:Nat)(fr:List Nat)(σ:St)(H1:Hp)(Q:VK):Prop:=∃W:Nat->Nat->List V->Hp->Prop,(∃m,W 0 m [] H1)/\∀i m ys H,W i m ys H->
 (XX.stop i H/\ys.length<=sizeLine/\∀p,H p=none->Q (.ref p) (upd H p<|.lst ys))\/
 (XX.go i H/\ys.length<sizeLine/\∀x H',XX.yld i H x H'->g x (σC o fr σ) H' λσ2 H2=>tt σ2 H2 λb H3=>if b=true then te σ2 H3 λy H4=>∃m',m'<m/\W (i+1) m' (ys++[y]) H4 else ∃m',m'<m/\W (i+1) m' ys H3)
noncomputable def tLc(wi:TI)(g:TG)(tt:TT)(te:TE)(o:Nat)(fr:List Nat):TE:=λσ H Q=>wi σ H λXX H1=>LcR XX g tt te o fr σ H1 Q
noncomputable def OwnG(o:Nat)(g:TG):Prop:=∀x ow fr H Q,ow.length=o->g x (ow++fr) H Q->g x (ow++fr) H λσ2 H2=>(∃ow',ow'.length=o/\σ2=ow'++fr)/\Q σ2 H2
theorem ZE(h:i<o):OwnG o (Zz910 i):=λx ow fr H Q hl q=>⟨⟨ow.set i<|some x,by rw[Y0i];exact hl,by rw[List.set_append_left _ _ O]⟩,q⟩
noncomputable def ZL12(o:Nat)(g:TGs):Prop:=∀xs ow fr H Q,ow.length=o->g xs (ow++fr) H Q->g xs (ow++fr) H λσ2 H2=>(∃ow',ow'.length=o/\σ2=ow'++fr)/\Q σ2 H2
theorem ZB4:ZL12 o gNil:=λ_ ow _ _ _ hl zz=>by obtain⟨e,q⟩:=zz;exact⟨e,⟨ow,hl,Z⟩,q⟩
theorem Zw1(h:i<o)(h2:ZL12 o u):ZL12 o (ZP13 (Zz910 i) u):=by
 rintro xs ow fr H Q hl ⟨v,r,rfl,q⟩;refine⟨v,r,Z,?_⟩;have q':u r ((ow++fr).set i (some v)) H Q:=q
 show u r ((ow++fr).set i (some v)) H _;rw[List.set_append_left _ _ XT]at q' ⊢;exact h2 r (ow.set i<|some v) fr H Q (by rwa[Y0i]) q'
theorem ZA4{K:PySem.W.Frag}{o n:Nat}{u:TGs}(h:ZL12 o u):OwnG o (gTup K n u):=by rintro x ow fr H Q hl ⟨a,xs,rfl,hs,hn,q⟩;exact⟨a,xs,Z,hs,hn,h xs ow fr H Q hl q⟩
section
variable{X:Cx}{pins:List (Addr×Obj)}{σ:St}{H:Hp}{s:Shared}{N':List Str}{o:Nat}{fr:List Nat}{scope:Scope}{fp:List Addr}
noncomputable abbrev ZJ (us:List Value):Obj:={cls:=.type "list",data:=.seq us.toArray us.length}
theorem CompScope.nocell'(XW:CompScope sc0 N N' o fr scope):∀y∈scope.names,y.2≠.cell:=λy hy e=>by have q:=Yy03.mp XW.nocell y hy;rw[e]at q;exact absurd q J
theorem CompScope.loc'(XW:CompScope sc0 N N' o fr scope):∀y∈scope.names,y.2=.local->scope.names.lookup y.1=some .local:=λy hy e=>by have q:=Yy03.mp XW.loc y hy;rw[e]at q;simpa using q
theorem CompScope.free'(XW:CompScope sc0 N N' o fr scope)(hs:X.env.scope=sc0):∀y∈scope.names,y.2=.free->X.env.kindOf y.1=some .cell\/X.env.kindOf y.1=some .free:=λy hy e=>by
 have q:=Yy03.mp XW.free y hy;rw[e]at q;show X.env.scope.names.lookup y.1=_\/X.env.scope.names.lookup y.1=_
 rw[hs];simpa using q
theorem CompScope.sees'(XW:CompScope sc0 N N' o fr scope):∀j y,fr[j]?=some y->∃x,N[y]?=some x/\N'[o+j]?=some x/\scope.names.lookup x=some .free:=λj y e=>by
 have hj:j<fr.length:=(Yy4.mp e).1;have q:=Yy03.mp XW.sees j (YE.mpr hj)
 rw[e]at q;dsimp only at q;cases ex:N[y]? with
 |none=>rw[ex]at q;cases q
 |some x=>
  rw[ex]at q;dsimp only at q;rw[Y0P,Y1d,Y1d]at q;exact⟨x,Z,q.1,q.2⟩
theorem CompScope.cells(XW:CompScope sc0 N0 N' o fr scope)(hs:X.env.scope=sc0)(I:Inv X pins σ H s):∀y∈scope.names,y.2=.free->∃c,X.env.cells.lookup y.1=some c:=λy hy e=>I.ok.has y.1 (XW.free' hs y hy e)
theorem CompScope.sub(XW:CompScope sc0 N0 N' o fr scope)(hs:X.env.scope=sc0)(I:Inv X pins σ H s):∀x c,(Zb4 X.env.cells scope.names []).lookup x=some c->X.env.cells.lookup x=some c:=
 Zz53 (env:=X.env) scope.names [] (XW.cells hs I) (λ_ _ z=>nomatch z)
theorem Inv.block(XW:CompScope sc0 N0 N' o fr scope)(hs:X.env.scope=sc0)(hN:X.N=N0)(I:Inv X pins σ H s)(hf:∀b∈fp,FpOk X pins H b)(hfl:∀b∈fp,b<s.heap.objs.size){h1:Heap}{C D:Addr}{m:Str->Option Value}{t:Nat}
  (hC:s.heap.objs.size<=C)(hD:s.heap.objs.size<=D)(hDC:D≠C)
  (old:∀b ob,s.heap.get? b=some ob->h1.get? b=some ob)(hn:h1.Ns C m)(ha:h1.get? D=some (ZJ us)):Inv (cxC X N' scope C s H fp) [(D,ZJ us)] (σC o fr σ) H {s with heap:=h1,toks:=t}:=by
 have sub:=XW.sub hs I;have frC:∀b∈frs X.stack,b<s.heap.objs.size:=λb hb=>by obtain⟨_,ob,ho,_⟩:=I.stack.mem hb;exact Yi ho
 refine⟨⟨I.ok.mod,XW.kind,I.ok.glob,I.ok.blt,hC,λx y c h1 h2=>I.ok.inj x y c (sub x c h1)<|sub y c h2,λx hx=>?_,λx c hfx _=>(nomatch hfx),I.ok.hd,I.ok.frames,.inl Z,λb hb=>?_,I.bs,Yv I.ok.bsz I.sz,λb ob e hb=>?_,λb hb hb'=>?_,I.stack,I.stkFree⟩,
  rfl,I.bare,Un.kept old,⟨m,hn,λi x v e1 e2 e3=>?_⟩,λx c e=>?_,I.hok.fresh hC,λx c e=>I.freeC x c<|sub x c e,λp hp=>?_,I.hok.kept old,?_⟩
 ·have hx':(relabel scope X.env).names.lookup x=some .cell\/(relabel scope X.env).names.lookup x=some .free:=hx;have key:(x,NameKind.free)∈scope.names:=by
   rcases hx' with z|z
   ·rcases ZY (env:=X.env) z (.inl rfl) with q|q
    ·exact q
    ·exact absurd Z (XW.nocell' _ q)
   ·rcases ZY (env:=X.env) z (.inr rfl) with q|q
    ·exact q
    ·exact absurd Z (XW.nocell' _ q)
  exact Y1T.mp (Zz92 (cells:=X.env.cells) scope.names [] x key)
 ·obtain⟨f0,f1,f2,f3,f4,f5⟩:=hf b hb;exact⟨Ym<|Yf (hfl b hb) hC,λx c e=>f4 x c<|sub x c e⟩
 ·obtain⟨f0,f1,f2,f3,f4,f5⟩:=hf b hb;rcases f3 with z|z
  ·exact I.ok.noex b ob e z
  ·exact absurd (Yf (Yi e)<|Yv I.ok.bsz z) (Y0p _)
 ·obtain⟨f0,f1,f2,f3,f4,f5⟩:=hf b hb;rcases Ye.mp (I.stkSub b hb') with z|z
  ·exact f1 z
  ·exact f2 z
 ·unfold σC at e2;by_cases hi:i<o
  ·rw[Ys (by rwa[Yx]),Y0X,if_pos hi]at e2;cases e2
  ·rw[Yn (by rw[Yx];exact Y2K.mp hi),Yx,Yg]at e2;cases hy:fr[i-o]? with
   |none=>rw[hy]at e2;cases e2
   |some y=>
    rw[hy]at e2;have e2':(σ[y]?).join=some v:=Yl e2
    have e3':σ[y]?=some (some v):=by
     cases q:σ[y]? with
     |none=>rw[q]at e2';cases e2'
     |some z=>rw[q]at e2';exact YX some e2'
    obtain⟨x',s2,s1,s3⟩:=XW.sees' (i-o) y hy;rw[<-hN]at s2;rw[show o+(i-o)=i by grind]at s1;have ex:x=x':=by have e1':N'[i]?=some x:=e1;rw[e1']at s1;exact Yl s1
    subst ex;have hmem:=Y0Y s3
    obtain⟨m0,_,hl⟩:=I.loc;have hk:=XW.free' hs (x,.free) hmem rfl
    obtain⟨u,ru,lk⟩:=hl y x v s2 e3' (by rcases hk with z|z;exact .inr (.inl z);exact .inr<|.inr z);refine⟨u,ru,.inr ⟨ZH1 (env:=X.env) s3,?_⟩⟩;obtain⟨c',hc'⟩:=Y1T.mp (Zz92 (cells:=X.env.cells) scope.names [] x hmem);refine⟨c',hc',?_⟩;rcases lk with ⟨z,_⟩|⟨_,c,e,ob,ho,hd⟩
    ·rcases hk with z'|z'
     ·rw[z]at z';cases z'
     ·rw[z]at z';cases z'
    ·have ec:c=c':=by
      have:=sub x c' hc'
      rw[e]at this;exact Yl this
     subst ec;exact⟨ob,old _ _ ho,hd⟩
 ·obtain⟨v,ob,ho,hd⟩:=I.cell x c (sub x c e);exact⟨v,ob,old _ _ ho,hd⟩
 ·have e:p=(D,ZJ us):=by simpa using (show p∈([]:List (Addr×Obj))++[(D,ZJ us)] from hp)
  subst e;refine⟨ha,I.hok.fresh hD,hDC,λz=>absurd (Yf (frC D z) hD)<|Y0p _,λv z=>nomatch z⟩
 ·show(σC o fr σ).length=N'.length;unfold σC;rw[Yy3,Yx,Yy9,XW.len]
theorem Inv.unblock(I:Inv X pins σ H s)(hf:∀b∈fp,FpOk X pins H b){σ':St}{s':Shared}(hC:s.heap.objs.size<=C)(hD:s.heap.objs.size<=D)(hDC:D≠C)
  (I':Inv (cxC X N' scope C s H fp) [(D,ZJ us)] σ' H' s')(r:Vals ys us)(hz:ys.length<=sizeLine):∃oC m,s'.heap.get? C=some oC/\s'.heap.Ns C m/\Inv X (pins++[(C,oC)]) σ (upd H' D<|.lst ys) s':=by
 obtain⟨aD,nD,_,_,_⟩:=I'.pin (D,ZJ us) B;have aD:s'.heap.get? D=some (ZJ us):=aD
 have nD:H' D=none:=nD;have un:Un (frs X.stack) fp H H' s.heap s'.heap:=I'.base
 have lt:∀b u,H b=some u->b≠D:=λb u e=>Ym (Yf (I.hok.lt e) hD);have un2:Un (frs X.stack) fp H (upd H' D<|.lst ys) s.heap s'.heap:=by
  refine⟨un.keep,un.slot,λb ob e n hx=>?_,un.there,λb xs e=>?_,λb ob u e=>?_,λb ps e=>?_⟩
  ·rw[Zd (Ym<|Yf (Yi e) hD)];exact un.free b ob e n hx
  ·rw[Zd (lt b _ e)];exact un.tups b xs e
  ·rw[Zd (lt b _ e)];exact un.frzs b ob u e
  ·obtain⟨more,q⟩:=un.tbls b ps e;exact⟨more,by rwa[Zd (lt b _ e)]⟩
 have hok:HOk X.prog X.w (upd H' D<|.lst ys) s'.heap:=λb u e=>by
  by_cases hb:b=D
  ·subst hb;rw[Zz1]at e;cases e;exact⟨hz,us,us.length,r,aD⟩
  ·rw[Zd hb]at e;exact(I'.hok b u e).stay (λc v _ q=>q) (λc q=>by rwa[Zd (Ze q nD)]) λc xs q=>by rwa[Zd (Ze q nD)]
 have os:s'.os=s.os:=I'.os;have XX:Inv X pins σ (upd H' D<|.lst ys) s':=I.call' (ch:=fp) os un2 hok I'.bare λb hb=>by obtain⟨f0,f1,f2,f3,f4,f5⟩:=hf b hb;exact⟨f3,f1,f4,f5⟩
 obtain⟨m,hn,_⟩:=I'.loc;have hn:s'.heap.Ns C m:=hn
 obtain⟨oC,es,ep,hoC,hdC,_⟩:=id hn;refine⟨oC,m,hoC,hn,XX.pins_of λp hp=>?_⟩;rcases Yj.mp hp with z|z
 ·exact XX.pin p (Yd _ z)
 ·have e:p=(C,oC):=by simpa using z
  subst e;have nC:H' C=none:=I'.free
  refine⟨hoC,by rw[Zd (YU hDC)];exact nC,Y0S<|Yf I.lt hC,I.nofs hC,λv z=>?_⟩;have z':oC.data=.cell v:=z
  rw[hdC]at z';cases z'
end
section
variable{X:Cx}{N':List Str}{o:Nat}{fr:List Nat}{scope:Scope}{elt tg iter:Expr}{ifs:List Expr}{pos:Pos}{wi:TI}{g:TG}{tt:TT}{te:TE}
theorem ZM11(hc:X.calm=true)(XW:CompScope sc0 N0 N' o fr scope)(hi:PI X tg iter wi)(ho:OwnG o g)
  (hg:∀C s H fp,PG (cxC X N' scope C s H fp) tg g)
  (ht:∀C s H fp,PTs (cxC X N' scope C s H fp) ifs tt)
  (he:∀C s H fp,PE (cxC X N' scope C s H fp) elt te)
  (hs:∀x,foldedSetIterable iter X.env x=pure x)(hsc:X.env.scope=sc0)(hN0:X.N=N0)(I:Inv X pins σ H s)(h:tLc wi g tt te o fr σ H Qv)
  {use:Option (Value->Sem Unit)}{Q:Value->Shared->Prop}{E:Value->Shared->Prop}
  (hE:∀e s',X.xe e s'->E e s')
  (fin:∀C oC D m H' ys s',Inv X (pins++[(C,oC)]) σ (upd H' D<|.lst ys) s'->Qv (.ref D) (upd H' D<|.lst ys)->s'.heap.Ns C m->H' C=none->C≠D->
   C≠X.env.locals->X.s₀.heap.objs.size<=C->(∀x c,X.env.cells.lookup x=some c->c≠C)->(∀p∈X.pn++pins,p.1≠C)->compPost (model X.prog X.w) X.A E use Q (.ref D) C (.ok .next) s'):
  wpAny (model X.prog X.w) X.A (comprehension (.ListComp elt [⟨tg,iter,ifs,0⟩] scope pos) scope X.env (firstIterPos [⟨tg,iter,ifs,0⟩] pos) (newList []) false (eval iter X.env) use) Q E s:=by
 refine wpAny_comprehension_free (use:=use) Z hs (ZB3<|XW.cells hsc I) XW.kind XW.loc' (Yy07 (hi pins s σ H _ I h) (λxv s1 h1=>Yy07 h1 (λitv s2 h2=>?_) hE) hE);obtain⟨it,fp,tn,XX,H2,rfl,I2,T,st2,f2,W,⟨m0,w0⟩,turn⟩:=h2;have hfl:∀b∈fp,b<s2.heap.objs.size:=λb hb=>by obtain⟨ob,e,_⟩:=T.obj 0 _ st2 b hb;exact Yi e
 refine Y0c (wpAny_newFunctionEnv XW.nocell' (by intro y hy;simp at hy) (λh1 hns1 hsb1=>?_) XW.kind);dsimp only at hns1 hsb1 ⊢;generalize hH2:s2.heap.push {cls:=.type "list",dict:=none,data:=.seq ([]:List Value).toArray}=G at hns1 hsb1 ⊢;have hCe:G.objs.size=s2.heap.objs.size+1:=by rw[<-hH2,Y0n]
 have hC:s2.heap.objs.size<=G.objs.size:=by rw[hCe];exact Y0W _
 have hDC:s2.heap.objs.size≠G.objs.size:=by rw[hCe];exact Ym (Y0d _)
 have old:∀b ob,s2.heap.get? b=some ob->h1.get? b=some ob:=λb ob e=>
  hsb1.extBut b ob (Ym<|Yf (Yi e) hC) (Yy5 _<|hH2▸Yy5 _ e)
 have hacc:h1.get? s2.heap.objs.size=some (ZJ []):=hsb1.extBut _ _ hDC (Yy5 _<|hH2▸Yk _ Z);have st1:tn 0 h1:=T.keep _ _ _ st2 λb _ ob e=>old b ob e
 have fpC:∀{us:List Value}{H':Hp},(∀b∈fp,H' b=none)->∀b∈fp,FpOk (cxC X N' scope G.objs.size s2 H2 fp) [(s2.heap.objs.size,ZJ us)] H' b:=λ{us H'} hn b hb=>by
  obtain⟨f0,f1,f3,f4,f5,f6⟩:=f2 b hb;refine⟨hn b hb,Ym<|Yf (hfl b hb) hC,λz=>?_,.inl hb,λx c e=>f5 x c<|XW.sub hsc I2 x c e,λp hp=>?_⟩
  ·rcases Ye.mp (I2.stkSub b z) with q|q
   ·exact f1 q
   ·exact f3 q
  ·have e:p=(s2.heap.objs.size,ZJ us):=by simpa using (show p∈([]:List (Addr×Obj))++[(s2.heap.objs.size,ZJ us)] from hp)
   subst e;exact Y0S (hfl b hb)
 have loop:∀s3:Shared,s3={s2 with heap:=h1,toks:=s2.toks+([]:List (Str×Value)).length}->
   codeAny (model X.prog X.w) X.A (.compLoop (.ListComp elt [⟨tg,iter,ifs,0⟩] scope pos) 0 (.ref it) (.ref s2.heap.objs.size)<|compEnvC scope (Zb4 X.env.cells scope.names []) G.objs.size X.env)
    (compPost (model X.prog X.w) X.A E use Q (.ref s2.heap.objs.size) G.objs.size) s3:=by
  rintro s3 rfl;refine Zz94 (λn s'=>∃i σ' H' ys us,Inv (cxC X N' scope G.objs.size s2 H2 fp) [(s2.heap.objs.size,ZJ us)] σ' H' s'/\σ'=σC o fr σ/\Vals ys us/\tn i s'.heap/\(∀b∈fp,H' b=none)/\W i n ys H') ?_ m0
   ⟨0,_,H2,[],[],I2.block XW hsc hN0 f2 hfl hC (Yy6 _) hDC old hns1 hacc,Z,.nil,st1,λb hb=>(f2 b hb).1,w0⟩
  rintro n s' ⟨i,σ',H',ys,us,I',rfl,rv,st',fr',w'⟩;rcases turn i n ys H' w' with ⟨stop,hz,q⟩|⟨go,hz,step⟩
  ·refine thn (T.done (cxC X N' scope G.objs.size s2 H2 fp) Z Z Z hc i _ s' _ H' _ I' (fpC fr') st' stop) λr s4 zz=>?_;obtain⟨hr,I4⟩:=zz;subst hr;obtain⟨oC,m,hoC,hn,J4⟩:=I2.unblock f2 hC (Yy6 _) hDC I4 rv hz;exact fin _ oC _ m H' ys s4 J4 (q _ (I4.pin (s2.heap.objs.size,ZJ us) B).2.1) hn I4.free (YU hDC) (Y0S<|Yf I2.lt hC) (Yv I2.sz hC)
    (λx c e=>by obtain⟨v,z⟩:=I2.cell x c e;exact Ym<|Yf z.lt hC) λp hp=>Ym (Yf (Yi (I2.pin p hp).1) hC)
  ·refine thn (T.item (cxC X N' scope G.objs.size s2 H2 fp) Z Z Z hc i _ s' _ H' _ I' (fpC fr') st' go) λr s4 hz0=>?_;obtain⟨u,hr,h4⟩:=hz0;subst hr;refine thn h4 λ_ s5 hz0=>?_;obtain⟨x,H5,I5,r5,y5,st5,fr5⟩:=hz0;have hst:=step x H5 y5
   have hst':=ho x (List.replicate o none) (fr.map λj=>(σ[j]?).join) H5 _ (Yx ..) hst;have I5':=I5.pinned (fpC (us:=us) fr5) (T.obj _ _ st5)
   refine thn (hg _ _ _ _ _ s5 _ H5 x u _ I5' r5 hst') λ_ s6 hz0=>?_;obtain⟨σ6,H6,I6,⟨ow,hol,e6⟩,q6⟩:=hz0;subst e6;refine thn (ht _ _ _ _ _ s6 _ H6 _ I6 q6) λb s7 hz0=>?_;obtain⟨H7,I7,q7⟩:=hz0;have back:∀{us':List Value}{σ8:St}{H8:Hp}{s8:Shared},Inv (cxC X N' scope G.objs.size s2 H2 fp) ([(s2.heap.objs.size,ZJ us')]++ZI1 fp s5.heap) (ow++fr.map λj=>(σ[j]?).join) H8 s8->
     Inv (cxC X N' scope G.objs.size s2 H2 fp) [(s2.heap.objs.size,ZJ us')] (σC o fr σ) H8 s8/\tn (i+1) s8.heap/\∀b∈fp,H8 b=none:=λ{us' σ8 H8 s8} I8=>by
    refine⟨I8.unpinned.weak ?_ λj v e=>?_,T.keep _ _ _ st5 λb hb ob e=>(I8.pin (b,ob)<|Yd _<|Yd _<|Zz21 hb e).1,λb hb=>?_⟩
    ·unfold σC;rw[Yy3,Yy3,Yx,hol]
    ·unfold σC at e;by_cases hj:j<o
     ·rw[Ys (by rwa[Yx]),Y0X,if_pos hj]at e;cases e
     ·rw[Yn (by rw[Yx];exact Y2K.mp hj),Yx]at e;rwa[Yn (by rw[hol];exact Y2K.mp hj),hol]
    ·obtain⟨ob,e,_⟩:=T.obj _ _ st5 b hb;exact(I8.pin (b,ob)<|Yd _<|Yd _<|Zz21 hb e).2.1
   cases b with
   |false=>
    rw[if_neg Yo]at q7 ⊢;obtain⟨m',hm,w7⟩:=q7;obtain⟨I8,st8,fr8⟩:=back (us':=us) (σ8:=[]) I7;exact⟨m',hm,i+1,_,H7,ys,us,I8,Z,rv,st8,fr8,w7⟩
   |true=>
    rw[if_pos Z]at q7 ⊢;refine thn (he _ _ _ _ _ s7 _ H7 _ I7 q7) λy s8 hz0=>?_;obtain⟨yv,H8,I8,r8,m',hm,w8⟩:=hz0;obtain⟨aD,nD,_,_,_⟩:=I8.pin (s2.heap.objs.size,ZJ us) B;have aD:s8.heap.get? s2.heap.objs.size=some (ZJ us):=aD
    have nD:H8 s2.heap.objs.size=none:=nD;have hul:us.length<=sizeLine:=by rw[<-rv.length];exact Y1m hz
    refine append_at (hsz:=by show us.toArray.size<=sizeLine;rwa[Ya]) aD λh9 hs9 hD9=>?_;have hD9':h9.get? s2.heap.objs.size=some (ZJ<|us++[y]):=by
     rw[hD9];show some ({cls:=.type "list",data:=.seq (us.toArray.push y) (us.length+1)}:Obj)=some {cls:=.type "list",data:=.seq (us++[y]).toArray (us++[y]).length}
     rw[Yy3,Yw,List.push_toArray]
    have I9:Inv (cxC X N' scope G.objs.size s2 H2 fp) (ZI1 fp s5.heap) (ow++fr.map λj=>(σ[j]?).join) H8 {s8 with heap:=h9}:=
     (I8.pins_of (pins':=ZI1 fp s5.heap) λp hp=>I8.pin p<|Yd _<|Yd _ hp).turned (t':=s8.toks) (it:=s2.heap.objs.size) (λb ob hb e=>hs9.extBut b ob hb e) nD hDC (.inr<|Yy6 _)
      (λx c e=>by obtain⟨v,z⟩:=I2.cell x c (XW.sub hsc I2 x c e);exact Ym z.lt)
      λp hp=>by obtain⟨hb,_⟩:=ZS2 (show p∈ZI1 fp s5.heap from by simpa[cxC] using hp);exact Ym (hfl p.1 hb)
    have I9':Inv (cxC X N' scope G.objs.size s2 H2 fp) ([(s2.heap.objs.size,ZJ<|us++[y])]++ZI1 fp s5.heap) (ow++fr.map λj=>(σ[j]?).join) H8 {s8 with heap:=h9}:=
     I9.pins_of λp hp=>by
      rcases Yj.mp hp with z|z
      ·have e:p=(s2.heap.objs.size,ZJ<|us++[y]):=by simpa using z
       subst e;refine⟨hD9',nD,hDC,λz=>?_,λv z=>nomatch z⟩;obtain⟨_,ob,hob,_⟩:=I2.stack.mem z;exact Y0p _ (Yi hob)
      ·exact I9.pin p (Yd _ z)
    obtain⟨I10,st10,fr10⟩:=back (us':=us++[y]) (σ8:=[]) I9';exact⟨m',hm,i+1,_,H8,ys++[yv],us++[y],I10,Z,Vals.append rv<|.cons r8 .nil,st10,fr10,w8⟩
 exact codeAny_compStart_list (loop _ Z) (T.self _ 0 _ _ _ st1<|loop _ Z)
theorem Zs5(hc:X.calm=true)(XW:CompScope sc0 N0 N' o fr scope)(hi:PI X tg iter wi)(ho:OwnG o g)
  (hg:∀C s H fp,PG (cxC X N' scope C s H fp) tg g)
  (ht:∀C s H fp,PTs (cxC X N' scope C s H fp) ifs tt)
  (he:∀C s H fp,PE (cxC X N' scope C s H fp) elt te)
  (hs:∀x,foldedSetIterable iter X.env x=pure x:=by intro _;rfl)(hsc:X.env.scope=sc0:=by rfl)(hN0:X.N=N0:=by rfl):PE X (.ListComp elt [⟨tg,iter,ifs,0⟩] scope pos) (tLc wi g tt te o fr):=by intro pins s σ H Q I h;rw[eval_ListComp];refine ZM11 hc XW hi ho hg ht he hs hsc hN0 I h (use:=none) (λ_ _ z=>z) λC oC D m H' ys s' XX q hn nC hCD hCL hCs hCc hCp=>?_;refine⟨m,hn,λh' hs'=>⟨.ref D,upd H' D<|.lst ys,?_,Z,q⟩⟩;refine XX.unpinned.turned (t':=s'.toks) (it:=C) (λb ob hb e=>hs'.extBut b ob hb e) (by rwa[Zd hCD]) hCL (.inr hCs) hCc hCp
theorem Zo7{x:Str}{px:Pos}{spos:Pos}(hc:X.calm=true)(hN:X.N.Nodup)(hx:X.N[i]?=some x)(hl:X.env.kindOf x=some .local)(XW:CompScope sc0 N0 N' o fr scope)(hi:PI X tg iter wi)(ho:OwnG o g)
  (hg:∀C s H fp,PG (cxC X N' scope C s H fp) tg g)
  (ht:∀C s H fp,PTs (cxC X N' scope C s H fp) ifs tt)
  (he:∀C s H fp,PE (cxC X N' scope C s H fp) elt te)
  (hs:∀x,foldedSetIterable iter X.env x=pure x:=by intro _;rfl)(hsc:X.env.scope=sc0:=by rfl)(hN0:X.N=N0:=by rfl)
  (hsw:swapsWith (.ListComp elt [⟨tg,iter,ifs,0⟩] scope pos) (some<|.Name x px) spos.line X.env=pure true:=by rfl):
  PS X (.Assign [.Name x px] (.ListComp elt [⟨tg,iter,ifs,0⟩] scope pos) spos) (tAsg (tLc wi g tt te o fr)<|Zz910 i):=by
 intro pins s σ H D I h;rw[exec_Assign_Name_used _ _ _ _ hsw];refine Yy1 (Yy35<|Yy1 ?_);show wpAny _ X.A (do let _ <-comprehension (.ListComp elt [⟨tg,iter,ifs,0⟩] scope pos) scope X.env (firstIterPos [⟨tg,iter,ifs,0⟩] pos) (newList []) false (eval iter X.env) (some<|assign (.Name x px) X.env)) _ _ s
 refine Yy1 (Yy07 (ZM11 (Q:=λ_ s'=>SP X pins D .next s') hc XW hi ho hg ht he hs hsc hN0 I h (use:=some<|assign (.Name x px) X.env) (λ_ _ z=>z) λC oC Dd m H' ys s' XX q hn nC hCD hCL hCs hCc hCp=>?_) (λ_ s' hq=>Yh<|Yh hq) λ_ _ e=>e);show wpAny _ X.A (assign (.Name x px) X.env<|.ref Dd) _ _ _
 refine wpAny_assign_Name (ZK2 XX hN hx (.inl hl) (v:=.ref Dd) Z (λs2 I2=>?_)<|.inr hl);have g1:=(I2.pin (C,oC) B).1
 have g1:s2.heap.get? C=some oC:=g1;have n2:s2.heap.Ns C m:=by
  obtain⟨oc,es,ep,e,r⟩:=hn;have e0:=(XX.pin (C,oC) B).1
  have e0:s'.heap.get? C=some oC:=e0;rw[e]at e0;cases e0;exact⟨_,es,ep,g1,r⟩
 refine⟨m,n2,λh' hs'=>⟨_,upd H' Dd<|.lst ys,?_,q⟩⟩;exact I2.unpinned.turned (t':=s2.toks) (it:=C) (λb ob hb e=>hs'.extBut b ob hb e) (by rwa[Zd hCD]) hCL (.inr hCs) hCc hCp
end
section
variable{X:Cx}
theorem Zv5{x y:V}{us:List Value}(r:Vals [x,y] us):∃u v,us=[u,v]/\RelV x u/\RelV y v:=by
 cases r with
 |cons a r=>
  cases r with
  |cons b r=>cases r;exact⟨_,_,Z,a,b⟩
theorem Zz41:∀{ns:List Int}{us:List Value},Vals (ns.map V.int) us->IntsAre us ns
 |[],_,.nil=>.nil
 |n::ns,_,.cons r t=>by obtain⟨tk,rfl⟩:=r;exact .cons n tk (Zz41 t)
theorem Zz93:Zz12 X (.type "range") (λxs H Q=>∃j:Int,xs=[.int j]/\∀p,H p=none->Q (.ref p) (upd H p (.rng 0 j))):=by intro pins s σ H xs us Q I r h;obtain⟨j,rfl,q⟩:=h;obtain⟨u,rfl,t,rfl⟩:=Ze3 r;refine call_range_1 ?_;exact⟨.ref s.heap.objs.size,_,I.laid (o:=.rng 0 j) (λb u e=>Yy5 _ e) (Yy6 _) ⟨_,_,_,Yk _ Z⟩,Z,q _<|I.hok.fresh<|Yy6 _⟩
noncomputable def rngI(lo hi:Int):List Int:=(List.range (hi-lo).toNat).map λ(i:Nat)=>lo+(i:Int)
theorem ZB2(lo hi:Int):(rngI lo hi).length=(hi-lo).toNat:=by unfold rngI;rw[Yy9,YK]
theorem Zw5{lo:Int}:∀{us:List Value},us.length=n->(∀(j:Nat)(v:Value),us[j]?=some v->∃t,v=Value.int (lo+(j:Int)) t)->Vals (((List.range n).map λ(i:Nat)=>lo+(i:Int)).map V.int) us:=by
 induction n generalizing lo with
 |zero=>
  intro us h _;rw[YH.mp h];exact .nil
 |succ n ih=>
  intro us h hv;cases us with
  |nil=>cases h
  |cons u us=>
   rw[List.range_succ_eq_map,QP,QP];refine .cons ?_ ?_
   ·obtain⟨t,e⟩:=hv 0 u rfl;exact⟨t,e⟩
   ·have q:=ih (lo:=lo+1) (us:=us) (Y1D h) λj v e=>by obtain⟨t,e'⟩:=hv (j+1) v (by simpa using e);refine⟨t,?_⟩;rw[e'];congr 1;lia
    have e:(List.range n).map (λ(i:Nat)=>lo+1+(i:Int))=((List.range n).map Nat.succ).map (λ(i:Nat)=>lo+(i:Int)):=by
     rw[Y2i];refine YN λi _=>?_;show lo+1+(i:Int)=lo+((i+1:Nat):Int)
     lia
    rwa[e]at q
theorem Zz02 (hc:X.calm=true):Zz12 X (.type "list") (λxs H Q=>∃p lo hi,xs=[.ref p]/\H p=some (.rng lo hi)/\(-(2^62)<=lo/\lo<2^62/\-(2^62)<=hi/\hi<2^62)/\(hi-lo).toNat<=16777216/\
  ∀l,H l=none->Q (.ref l) (upd H l<|.lst<|(rngI lo hi).map V.int)):=by
 intro pins s σ H xs us Q I r h;obtain⟨p,lo,hi,rfl,hp,⟨b1,b2,b3,b4⟩,hz,q⟩:=h;obtain⟨u,rfl,ru⟩:=Ze3 r;obtain rfl:u=Value.ref p:=ru;obtain⟨t,u,v,e⟩:=(show ObjOk X.prog X.w H s.heap p (.rng lo hi) from I.hok p _ hp);have hn:Builtin.Range.rangeSize lo hi 1=(((hi-lo).toNat:Nat):Int):=by rw[rangeSize_one];split<;>grind
 refine call_list_range (I.ok.hd hc) (t:=t) (u:=u) (v:=v) e (small_one b1 b2 b3 b4) hn hz λh' tk acc c' hk hS ha=>?_;have hl:acc.toList.length=(hi-lo).toNat:=by rw[YI];exact ha.1
 have rv:Vals ((rngI lo hi).map V.int) acc.toList:=Zw5 (lo:=lo) hl λj w ew=>by obtain⟨t,e⟩:=ha.2 j w (by simpa using ew);exact⟨t,by rw[e,Y1p]⟩
 refine⟨.ref s.heap.objs.size,_,I.laid (o:=.lst<|(rngI lo hi).map V.int) hk (Yy6 _) ⟨?_,acc.toList,c',rv,?_⟩,Z,q _<|I.hok.fresh<|Yy6 _⟩
 ·rw[Yy9,ZB2]
  have:sizeLine=16777216:=Y1N
  lia
 ·rw[hS]
theorem ZE3 (hc:X.calm=true):Zz12 X (.builtin "sum") (λxs H Q=>∃(p:Addr)(ns:List Int),xs=[.ref p]/\SqL X.K H p (ns.map V.int)/\Q (.int ns.sum) H):=by
 intro pins s σ H xs us Q I r h;obtain⟨p,ns,rfl,hq,q⟩:=h;obtain⟨u,rfl,ru⟩:=Ze3 r;obtain rfl:u=Value.ref p:=ru;obtain⟨its,rv,pl,hz⟩:=I.list hq;have hi:=Zz41 rv
 have hall:=hi.allInts;obtain⟨xs,ex⟩:=hall.items;have hl:=pl.isList
 rw[ex]at hl;refine sum_intListG (I.ok.hd hc) hl λh' tk t' hk=>?_;have e1:preSum (numAt xs) xs.size=ns.sum:=by have e2:=hi.numsOf;rw[show its=its.toArray.toList from Z,ex,nums_intItems]at e2;rw[preSum_eq,YL B,<-e2]
 exact⟨.int ns.sum,H,I.kept hk,⟨t',by rw[e1]⟩,q⟩
noncomputable def seen(ns:List Int):List Int:=firstMet (λi=>ns.getD i 0) ns.length
theorem ZF3 (hc:X.calm=true):Zz12 X (.type "set") (λxs H Q=>∃p ns,xs=[.ref p]/\SqL X.K H p (ns.map V.int)/\ns.length+1<scanBound/\
  ∀l,H l=none->Q (.ref l) (upd H l (.set (λk=>(seen ns).any (· == k)) (seen ns).length))):=by
 intro pins s σ H xs us Q I r h;obtain⟨p,ns,rfl,hq,hb,q⟩:=h;obtain⟨u,rfl,ru⟩:=Ze3 r;obtain rfl:u=Value.ref p:=ru;obtain⟨its,rv,pl,hz⟩:=I.list hq;have hi:=Zz41 rv
 have hl:its.toArray.size=ns.length:=by rw[Ya,<-rv.length,Yy9]
 refine call_set_list (I.ok.hd hc) pl.isList (ns:=ns) (by simpa using hi) O λh' tk hs hk=>?_;refine⟨.ref s.heap.objs.size,_,I.laid (o:=.set (λk=>(seen ns).any (· == k)) (seen ns).length) (λb ob e=>hk b ob (Yi e) e) (Yy6 _) ?_,Z,q _<|I.hok.fresh<|Yy6 _⟩;unfold seen;rwa[<-hl]
theorem ZG3:Zz12 X (.builtin "len") (λxs H Q=>∃p XW n,xs=[.ref p]/\H p=some (.set XW n)/\(n:Int)<2^63/\Q (.int n) H):=by intro pins s σ H xs us Q I r h;obtain⟨p,XW,n,rfl,hp,hn,q⟩:=h;obtain⟨u,rfl,ru⟩:=Ze3 r;obtain rfl:u=Value.ref p:=ru;obtain⟨o,es,ep,t,e,hx,hd,_,_,_,hf,hz⟩:=(show ObjOk X.prog X.w H s.heap p (.set XW n) from I.hok p _ hp);subst hz;exact call_len_set e hx hd hf hn ⟨.int es.size,H,I.tok _,⟨_,Z⟩,q⟩
noncomputable def Ite(K:PySem.W.Frag)(a:Addr):It:=
 ⟨λi H=>∃xs x,SqL K H a xs/\xs[i]?=some x,λi H v H'=>∃T x,H T=none/\v=.ref T/\H'=upd H T (.tup [.int i,x])/\∀xs,SqL K H a xs->xs[i]?=some x,λi H=>∃xs,SqL K H a xs/\xs.length<=i⟩
noncomputable def ZO13(K:PySem.W.Frag)(ta:TA):TI:=λσ H R=>ta σ H λvs H1=>∃a,vs=[.ref a]/\(∃xs,SqL K H1 a xs)/\R (Ite K a) H1
theorem Zf7{P:Program}{w:World}{K:PySem.W.Frag}{elts:List Expr}{x1:Nat}{pos:Pos}(a e it:Addr)(hne:e≠it):Turn P w K (.Tuple elts x1 pos) (Ite K a) [e,it] e (λi h=>(∃old,IsEnum h e it i old)/\h.IsListIter it a i) where
 mem:=B
 obj:=λi h st b hb=>by
  obtain⟨⟨old,he⟩,o,eo,c,d⟩:=st;rcases Ye.mp hb with z|hb
  ·subst z;exact⟨_,he,λv z=>by have z':Data.fields _=Data.cell v:=z;cases z'⟩
  ·have z:b=it:=by simpa using hb
   subst z;exact⟨o,eo,λv z=>by rw[d]at z;cases z⟩
 keep:=λi h h' st k=>by obtain⟨⟨old,he⟩,hit⟩:=st;exact⟨⟨old,k e B _ he⟩,hit.at λo x=>k it B o x⟩
 item:=by
  intro X hP hw hK hc i pins s σ H E I hf st hg;subst hP hw hK;obtain⟨xs,x,hq,hx⟩:=hg;obtain⟨⟨old,he⟩,hit⟩:=st;obtain⟨its,rv,p,hz⟩:=I.list hq;obtain⟨u,hu,ru⟩:=rv.get hx;obtain⟨f0,f1,f2,f3,f4,f5⟩:=hf e B;obtain⟨g0,g1,g2,g3,g4,g5⟩:=hf it B;have hT0:H s.heap.objs.size=none:=I.hok.fresh (Yy6 _)
  refine wpAny_pyNext_enum_item he hit p.isList (x:=u) (by simpa using hu) hne λh' ho hit' hT hsz hk=>?_;have ltT:∀b ob,s.heap.get? b=some ob->b≠s.heap.objs.size:=λb ob z=>Ym (Yi z)
  have ltH:∀b ob,H b=some ob->b≠s.heap.objs.size:=λb ob z=>Ym (I.hok.lt z);have nof:∀b ob,H b=some ob->b≠e/\b≠it:=λb ob z=>⟨λq=>(by rw[q,f0]at z;cases z),λq=>(by rw[q,g0]at z;cases z)⟩
  have I1:Inv X pins σ (upd H s.heap.objs.size<|.tup [.int i,x]) {s with heap:=h',toks:=s.toks+1}:=by
   refine I.step (g':=s.gens) (d':=s.drawn) (ch:=[e,it]) (λb hb=>?_) (λb o _ _ hcx z _=>hk b o (λq=>hcx<|by simp[q]) (λq=>hcx<|by simp[q]) z) (λb o _ _ hcx z _=>⟨o.slots,hk b o (λq=>hcx<|by simp[q]) (λq=>hcx<|by simp[q]) z⟩)
    (λb o _ z n=>by rwa[Zd (ltT b o z)]) (λb o hcx z=>⟨o,hk b o (λq=>hcx<|by simp[q]) (λq=>hcx<|by simp[q]) z⟩) (λb ys z=>by rwa[Zd (ltH b _ z)]) (λb o v z=>by rwa[Zd (ltH b _ z)])
    (λb ps z=>⟨#[],by rw[Zd (ltH b _ z),z];simp⟩) (λm hm=>?_) (λb v z=>?_) I.bare
   ·rcases Ye.mp hb with q|hb
    ·rw[q];exact⟨f3,f1,f4,f5⟩
    ·have q:b=it:=by simpa using hb
     rw[q];exact⟨g3,g1,g4,g5⟩
   ·obtain⟨o,es,ep,ho',r⟩:=hm;exact⟨o,es,ep,hk _ o (YU f1) (YU g1) ho',r⟩
   ·by_cases hb:b=s.heap.objs.size
    ·subst hb;rw[Zz1]at z;cases z;exact⟨by show 2<=sizeLine;decide,[.int i s.toks,u],.cons ⟨_,Z⟩<|.cons ru .nil,⟨_,hT,Z,_,Z⟩⟩
    ·rw[Zd hb]at z;refine(I.hok b v z).stay (λc w' hc' q=>?_) (λc q=>by rwa[Zd (ltH c _ q)]) λc ys q=>by rwa[Zd (ltH c _ q)]
     rcases hc' with rfl|hc'
     ·exact hk c w' (nof c _ z).1 (nof c _ z).2 q
     ·exact hk c w' (nof c _ hc').1 (nof c _ hc').2 q
  refine⟨_,Z,wpAny_letOwnedTupleGo_enum ho λh2 he2 hs2=>?_⟩;have fT:e≠s.heap.objs.size:=ltT e _ he
  have I2:Inv X pins σ (upd H s.heap.objs.size<|.tup [.int i,x]) {s with heap:=h2,toks:=s.toks+1}:=Inv.turned (s:={s with heap:=h',toks:=s.toks+1}) (h':=h2) (t':=s.toks+1) (it:=e) I1 (λb o hb z=>hs2.extBut b o hb z) (by rwa[Zd fT]) f1 f3 f4 f5;refine⟨.ref s.heap.objs.size,_,I2,Z,⟨_,x,hT0,Z,Z,λys hy=>by rwa[I.list_inj hy hq]⟩,⟨⟨u,by simpa using he2⟩,hit'.at λo z=>hs2.extBut it o (YU hne) z⟩,λb hb=>?_⟩;rcases Ye.mp hb with q|hb
  ·rwa[q,Zd fT]
  ·have q:b=it:=by simpa using hb
   obtain⟨o,eo,_⟩:=hit;rwa[q,Zd (ltT it o eo)]
 done:=by
  intro X hP hw hK hc i pins s σ H E I hf st hg;subst hP hw hK;obtain⟨xs,hq,hx⟩:=hg;obtain⟨⟨old,he⟩,hit⟩:=st;obtain⟨its,rv,p,hz⟩:=I.list hq;obtain⟨g0,g1,g2,g3,g4,g5⟩:=hf it B;have hl:=rv.length
  exact wpAny_pyNext_enum_end (I.ok.hd hc) he hit p.isList (by simp;lia) λh' eb=>⟨Z,I.turned (t':=s.toks) (it:=it) (λb o hb z=>eb b o hb z) g0 g1 g3 g4 g5⟩
 self:=λ_ _ _ _ _ st h=>by obtain⟨⟨_,he⟩,_⟩:=st;exact wpAny_pyIter_enum he h
theorem Zg11 {elts:List Expr} {x1:Nat} {tpos:Pos} {a:Expr} {ta:TA} {p pos:Pos} (hg:Gl X "enumerate") (hm:X.mg "enumerate"=none) (ha:PA X [a] ta) (hs:starEach [a] X.env=[(false,eval a X.env)]:=by rfl):
  PI X (.Tuple elts x1 tpos) (.Call (.Name "enumerate" p) [a] [] pos) (ZO13 X.K ta):=by
 intro pins s σ H R I h;refine Call_ (Zw2 I hg hm Boot.«enumerate»<|Yy08 (thn (ha pos pins s σ H _ I h) λus s1 hz0=>?_) hs Z);obtain⟨vs,H1,I1,r1,q1⟩:=hz0;obtain⟨b,e,⟨xs,hq⟩,q⟩:=q1;subst e;obtain⟨u,rfl,ru⟩:=Ze3 r1;obtain rfl:u=Value.ref b:=ru;obtain⟨its,rv,pl,hz⟩:=I1.list hq;refine call_enumerate_list pl.isList λh' he hit hsz hk=>?_;have I2:Inv X pins σ H1 {s1 with heap:=h'}:=I1.kept (t':=s1.toks) hk
 refine wpAny_pyIter_enum he ?_;have nn:∀k,s1.heap.objs.size<=k->H1 k=none:=λk hk=>I1.hok.fresh hk
 refine⟨s1.heap.objs.size+1,[s1.heap.objs.size+1,s1.heap.objs.size],_,_,H1,Z,I2,Zf7 b _ _<|Nat.succ_ne_self _,⟨⟨_,he⟩,hit⟩,λc hc=>?_,q⟩;have hle:s1.heap.objs.size<=c:=by
  rcases Ye.mp hc with q|hc
  ·rw[q];exact Y0W _
  ·have q:c=s1.heap.objs.size:=by simpa using hc
   rw[q];exact Yy6 _
 exact I1.fpOk hle (nn c hle)
theorem ZN11{us:List Value}(r:Vals [kV k,y] us):∃u v,us=[u,v]/\RelV (kV k) u/\RelV y v:=Zv5 r
noncomputable def Zz911:V->List V->Hp->VK->Prop:=λx vs H Q=>∃d kvs k y,x=.ref d/\vs=[kV k,y]/\H d=some (.dK kvs)/\kvs.length<sizeLine/\(∀v,valV kvs k=some v->Q v H)/\(valV kvs k=none->Q y (upd H d<|.dK<|kvs++[(k,y)]))
theorem Zt3:MtM X "dict.setdefault" Zz911:=by
 intro pins s σ H x vs v us Q I rx rv h;obtain⟨d,kvs,k,y,rfl,rfl,hH,hz,h1,h2⟩:=h;cases rx;obtain⟨uk,uy,rfl,rk,ry⟩:=ZN11 rv;obtain⟨z,hd,ws,rel,dd⟩:=Zx13 I.hok hH;refine call_meetsIn Y2I dd.typeIs PySem.F.entry_dict_setdefault (PySem.F.args_dict_setdefault_3 _ _ _) (kt_meets_setdefault (Zh1 X.prog X.w) d (Yz14 rk) hd uy)
  ⟨ws,dd,by rw[<-rel.length];exact z,λv' hv'=>?_,λhn h' dd' hs=>?_⟩
 ·cases e:valV kvs k with
  |none=>
   have q:=rel.val k;rw[e,hv']at q;exact False.elim q
  |some w'=>
   have q:=rel.val k;rw[e,hv']at q;exact⟨w',H,I.tok _,q,h1 w' e⟩
 ·have e:valV kvs k=none:=by
   cases e:valV kvs k with
   |none=>rfl
   |some w'=>
    have q:=rel.val k;rw[e,hn]at q;exact False.elim q
  have he:∃q,h'.get? d=some q:=by obtain⟨q,_,_,hq,_⟩:=dd';exact⟨q,hq⟩
  refine⟨y,_,Zl12 (ob:=.dK<|putK kvs k y) I (by rw[hH];exact True.intro) hs he<|Zy13 ?_ hd (rel.put k ry) dd',ry,?_⟩
  ·have:=Zg5 kvs k y;lia
  ·rw[Zj9 y e];exact h2 e
noncomputable def ZC10(p d:Addr):HO:=.ext λh=>h.IsValuesView p d
noncomputable def Zz711:V->List V->Hp->VK->Prop:=λx vs H Q=>∃d kvs,x=.ref d/\vs=[]/\H d=some (.dK kvs)/\∀p,H p=none->Q (.ref p) (upd H p<|ZC10 p d)
theorem Zu7:MtM X "dict.values" Zz711:=by
 intro pins s σ H x vs v us Q I rx rv h;obtain⟨d,kvs,rfl,rfl,hH,q⟩:=h;cases rx;cases rv;obtain⟨z,hd,ws,rel,dd⟩:=Zx13 I.hok hH;refine call_meetsIn Y3b dd.typeIs PySem.F.entry_dict_values (PySem.F.args_dict_values_1 _) (meets_dict_values (Zh1 X.prog X.w) d hd) ⟨⟨ws,dd⟩,?_⟩;refine⟨.ref s.heap.objs.size,_,I.laid (o:=ZC10 s.heap.objs.size d) (λb u e=>Yy5 _ e) (Yy6 _) ?_,Z,q _<|I.hok.fresh<|Yy6 _⟩;have e:=Yk s.heap (o:={cls:=.type "dict_values",data:=.fields #[.ref d]}) rfl
 exact⟨⟨_,e,Z,Z⟩,⟨_,e⟩,λh1 h2 zz k=>by obtain⟨o,ho,r⟩:=zz;exact⟨o,k o ho,r⟩⟩
theorem ZQ7{h:Heap}(dd:h.DictOf (Zh1 P w) d ws):∃ep,h.DictAt (Zh1 P w) d ws ep:=by obtain⟨o,es,ep,r⟩:=dd;exact⟨ep,o,es,r⟩
theorem ZV8{κ:Type}{kvs:List (κ×V)}{ws:List (κ×Value)}(h:KV kvs ws):Vals (kvs.map (·.2)) (ws.map (·.2)):=by
 induction h with
 |nil=>exact .nil
 |cons r t ih=>exact .cons r.2 ih
theorem Za3 (hc:X.calm=true):Zz12 X (.type "list") (λxs H Q=>∃p d kvs,xs=[.ref p]/\H p=some (ZC10 p d)/\H d=some (.dK kvs)/\∀l,H l=none->Q (.ref l) (upd H l (.lst (kvs.map (·.2))))):=by
 intro pins s σ H xs us Q I r h;obtain⟨p,d,kvs,rfl,hp,hd,q⟩:=h;obtain⟨u,rfl,ru⟩:=Ze3 r;obtain rfl:u=Value.ref p:=ru;obtain⟨hv,_,_⟩:=(show ObjOk X.prog X.w H s.heap p (ZC10 p d) from I.hok p _ hp);obtain⟨z,hds,ws,rel,dd⟩:=Zx13 I.hok hd;obtain⟨ep,da⟩:=ZQ7 dd;have hl:ws.length=kvs.length:=rel.length.symm
 refine PySem.W.kdl_call (PySem.W.kdl_values (knd:=Zh1 X.prog X.w) (kvs:=ws) (ep:=ep) (r:=p) (d:=d)) (I.ok.hd hc) ⟨hv,da⟩ O λh' tk acc c' hk hS ha=>?_;have ea:acc.toList=ws.map (·.2):=by
  refine Y0V λi=>?_;cases e:acc.toList[i]? with
  |none=>
   have:ws.length<=i:=by
    have:=Yy37.mp e
    rwa[YI,ha.1]at this
   rw[Yy37.mpr (by rwa[Yy9])]
  |some v=>
   obtain⟨k,ek⟩:=ha.2 i v (by simpa using e);rw[Yg,ek];rfl
 refine⟨.ref s.heap.objs.size,_,I.laid (o:=.lst (kvs.map (·.2))) hk (Yy6 _) ⟨by rw[Yy9];exact z,acc.toList,c',?_,by rw[hS]⟩,Z,q _<|I.hok.fresh<|Yy6 _⟩;rw[ea];exact ZV8 rel
end
inductive EqD (K:PySem.W.Frag) (H:Hp):Nat->V->V->Bool->Prop
 |flat {n:Nat} {x y:V} (fx:Zz54 x=true) (fy:Zz54 y=true):EqD K H n x y (eqV x y)
 |lsts {n:Nat} {a b:Addr} {xs ys:List V} {e:Nat->Bool} (ha:SqL K H a xs) (hb:SqL K H b ys) (hl:xs.length=ys.length) (h:∀i x y,xs[i]?=some x->ys[i]?=some y->EqD K H n x y (e i)):EqD K H (n+1) (.ref a) (.ref b) ((List.range xs.length).all e)
 |lens {n:Nat} {a b:Addr} {xs ys:List V} (ha:SqL K H a xs) (hb:SqL K H b ys) (hl:xs.length≠ys.length):EqD K H (n+1) (.ref a) (.ref b) false
 |tups {n:Nat} {a b:Addr} {xs ys:List V} {e:Nat->Bool} (ha:SqT K H a xs) (hb:SqT K H b ys) (h:∀i x y,xs[i]?=some x->ys[i]?=some y->EqD K H n x y (e i)):
   EqD K H (n+1) (.ref a) (.ref b) ((List.range<|min xs.length ys.length).all e&&xs.length == ys.length)
theorem Zi10(h:Zz54 x=true):eqV x x=true:=by cases x<;>first|rfl|(simp[eqV];done)|exact absurd (show false=true from h) Yo
section
variable{X:Cx}{pins:List (Addr×Obj)}{σ:St}{H:Hp}{s:Shared}
theorem Vals.at{j:Nat}(r:Vals xs us)(h:j<us.length):∃x,xs[j]?=some x/\RelV x us[j]:=by
 have hl:=r.length;have hx:xs[j]?=some (xs[j]'(by lia)):=Yy0 XT
 obtain⟨u,e,ru⟩:=r.get hx;rw[Yy0 h]at e;cases e;exact⟨_,hx,ru⟩
theorem EqD.self(q:EqD X.K H n x y b)(I:Inv X pins σ H s):x=y->b=true:=by
 induction q with
 |flat fx fy=>intro e;subst e;exact Zi10 fx
 |@lsts n a b xs ys e ha hb hl h ih=>
  intro z;cases z;have e1:xs=ys:=I.list_inj ha hb
  subst e1;rw[Yy03];intro i hi;have hx:xs[i]?=some (xs[i]'(YE.mp hi)):=Yy0 _
  exact ih i _ _ hx hx rfl
 |@lens n a b xs ys ha hb hl=>
  intro z;cases z;exact absurd (YX List.length<|I.list_inj ha hb) hl
 |@tups n a b xs ys e ha hb h ih=>
  intro z;cases z;have e1:xs=ys:=I.tuple_inj ha hb
  subst e1;rw[Nat.min_self,Y0P,Yy03];refine⟨λi hi=>?_,B⟩;have hx:xs[i]?=some (xs[i]'(YE.mp hi)):=Yy0 _
  exact ih i _ _ hx hx rfl
theorem EqD.at(q:EqD X.K H n x y b)(I:Inv X pins σ H s):∀{A:Around}{u v:Value},A.units+n<cLine->RelV x u->RelV y v->SeqAt.EqAt A s u v b:=by
 induction q with
 |flat fx fy=>intro A u v _ ru rv;exact Zz712 ru rv fx fy
 |@lsts n a b xs ys e ha hb hl h ih=>
  intro A u v hu ru rv;obtain rfl:u=Value.ref a:=ru;obtain rfl:v=Value.ref b:=rv;by_cases hab:a=b
  ·have z:=EqD.self (EqD.lsts ha hb hl h) I (YX V.ref hab);rw[z,hab];exact SeqAt.EqAt.same _
  obtain⟨us,rx,px,_⟩:=I.list ha;obtain⟨vs,ry,py,_⟩:=I.list hb;have l1:=rx.length
  have l2:=ry.length;have z:=SeqAt.RcAt.lists (A:=A) (s:=s) (e:=e) px.isList py.isList (by rw[Ya,Ya];lia) O λj h1 h2=>by obtain⟨x,ex,rx'⟩:=rx.at (j:=j) (by simpa using h1);obtain⟨y,ey,ry'⟩:=ry.at (j:=j) (by simpa using h2);exact ih j x y ex ey (A:=A.in1) (by show A.units+1+n<cLine;lia) (by simpa using rx') (by simpa using ry')
  rw[Ya,<-l1]at z;exact Y2X hab z
 |@lens n a b xs ys ha hb hl=>
  intro A u v hu ru rv;obtain rfl:u=Value.ref a:=ru;obtain rfl:v=Value.ref b:=rv;obtain⟨us,rx,px,_⟩:=I.list ha;obtain⟨vs,ry,py,_⟩:=I.list hb;have l1:=rx.length
  have l2:=ry.length;have hab:a≠b:=λz=>by subst z;exact hl (YX List.length<|I.list_inj ha hb)
  exact Y2X hab (SeqAt.RcAt.lists_lengths px.isList py.isList (by rw[Ya,Ya];simp;lia) XT)
 |@tups n a b xs ys e ha hb h ih=>
  intro A u v hu ru rv;obtain rfl:u=Value.ref a:=ru;obtain rfl:v=Value.ref b:=rv;by_cases hab:a=b
  ·have z:=EqD.self (EqD.tups ha hb h) I (YX V.ref hab);rw[z,hab];exact SeqAt.EqAt.same _
  obtain⟨us,rx,px,_⟩:=I.tuple ha;obtain⟨vs,ry,py,_⟩:=I.tuple hb;have l1:=rx.length
  have l2:=ry.length;have z:=SeqAt.RcAt.tuples (A:=A) (s:=s) (e:=e) (show s.heap.IsTuple a us.toArray from px) (show s.heap.IsTuple b vs.toArray from py) XT λj h1 h2=>by obtain⟨x,ex,rx'⟩:=rx.at (j:=j) (by simpa using h1);obtain⟨y,ey,ry'⟩:=ry.at (j:=j) (by simpa using h2);exact ih j x y ex ey (A:=A.in1) (by show A.units+1+n<cLine;omega) (by simpa using rx') (by simpa using ry')
  rw[Ya,Ya,<-l1,<-l2]at z;exact Y2X hab z
end
section
variable{X:Cx}
noncomputable def rEqD(K:PySem.W.Frag)(neg:Bool):R2:=λx y H Q=>∃n b p q,x=.ref p/\y=.ref q/\n<=6/\EqD K H n x y b/\Q (.bl<|if neg then !b else b) H
theorem Zi13(hu:X.A.units+8<cLine):OpR X (compareOp .Eq) (rEqD X.K false):=by
 intro pins s σ H x y u v Q I ru rv h;obtain⟨n,b,p,q,rfl,rfl,hn,d,hq⟩:=h;obtain rfl:u=Value.ref p:=ru;obtain rfl:v=Value.ref q:=rv;have fin:EP X pins σ Q (.bool b) s:=⟨.bl b,H,I,Z,hq⟩
 cases d with
 |flat fx fy=>exact absurd (show false=true from fx) Yo
 |@lsts n _ _ xs ys e ha hb hl h=>
  obtain⟨us,rx,px,_⟩:=I.list ha;obtain⟨vs,ry,py,_⟩:=I.list hb;have l1:=rx.length
  have l2:=ry.length;refine SeqAt.eq_listAt (e:=e) px.isList py.isList (by rw[Ya,Ya];lia) O (λj h1 h2=>?_) (by rwa[Ya,<-l1]);obtain⟨x,ex,rx'⟩:=rx.at (j:=j) (by simpa using h1);obtain⟨y,ey,ry'⟩:=ry.at (j:=j) (by simpa using h2);exact(h j x y ex ey).at I (A:=X.A.in1) (by show X.A.units+1+n<cLine;lia) (by simpa using rx') (by simpa using ry')
 |@lens n _ _ xs ys ha hb hl=>
  obtain⟨us,rx,px,_⟩:=I.list ha;obtain⟨vs,ry,py,_⟩:=I.list hb;have l1:=rx.length
  have l2:=ry.length;exact SeqAt.eq_list_lengthsAt px.isList py.isList (by rw[Ya,Ya];simp;lia) XT fin
 |@tups n _ _ xs ys e ha hb h=>
  obtain⟨us,rx,px,_⟩:=I.tuple ha;obtain⟨vs,ry,py,_⟩:=I.tuple hb;have l1:=rx.length
  have l2:=ry.length;refine SeqAt.eq_tupleAt (e:=e) (show s.heap.IsTuple p us.toArray from px) (show s.heap.IsTuple q vs.toArray from py) XT (λj h1 h2=>?_) (by rwa[Ya,Ya,<-l1,<-l2]);obtain⟨x,ex,rx'⟩:=rx.at (j:=j) (by simpa using h1);obtain⟨y,ey,ry'⟩:=ry.at (j:=j) (by simpa using h2);exact(h j x y ex ey).at I (A:=X.A.in1) (by show X.A.units+1+n<cLine;omega) (by simpa using rx') (by simpa using ry')
theorem Zh13(hu:X.A.units+8<cLine):OpR X (compareOp .NotEq) (rEqD X.K true):=by
 intro pins s σ H x y u v Q I ru rv h;obtain⟨n,b,p,q,rfl,rfl,hn,d,hq⟩:=h;obtain rfl:u=Value.ref p:=ru;obtain rfl:v=Value.ref q:=rv;have fin:EP X pins σ Q (.bool<|!b) s:=⟨.bl<|!b,H,I,Z,hq⟩
 cases d with
 |flat fx fy=>exact absurd (show false=true from fx) Yo
 |@lsts n _ _ xs ys e ha hb hl h=>
  obtain⟨us,rx,px,_⟩:=I.list ha;obtain⟨vs,ry,py,_⟩:=I.list hb;have l1:=rx.length
  have l2:=ry.length;refine SeqAt.RcNeAt.lists (e:=e) px.isList py.isList (by rw[Ya,Ya];omega) XT (λj h1 h2=>?_) _ _ _ _ (by rwa[Ya,<-l1]);obtain⟨x,ex,rx'⟩:=rx.at (j:=j) (by simpa using h1);obtain⟨y,ey,ry'⟩:=ry.at (j:=j) (by simpa using h2);exact(h j x y ex ey).at I (A:=X.A.in1) (by show X.A.units+1+n<cLine;omega) (by simpa using rx') (by simpa using ry')
 |@lens n _ _ xs ys ha hb hl=>
  obtain⟨us,rx,px,_⟩:=I.list ha;obtain⟨vs,ry,py,_⟩:=I.list hb;have l1:=rx.length
  have l2:=ry.length;exact SeqAt.RcNeAt.lists_lengths px.isList py.isList (by rw[Ya,Ya];simp;omega) XT _ _ _ _ fin
 |@tups n _ _ xs ys e ha hb h=>
  obtain⟨us,rx,px,_⟩:=I.tuple ha;obtain⟨vs,ry,py,_⟩:=I.tuple hb;have l1:=rx.length
  have l2:=ry.length;refine SeqAt.RcNeAt.tuples (e:=e) (show s.heap.IsTuple p us.toArray from px) (show s.heap.IsTuple q vs.toArray from py) XT (λj h1 h2=>?_) _ _ _ _ (by rwa[Ya,Ya,<-l1,<-l2]);obtain⟨x,ex,rx'⟩:=rx.at (j:=j) (by simpa using h1);obtain⟨y,ey,ry'⟩:=ry.at (j:=j) (by simpa using h2);exact(h j x y ex ey).at I (A:=X.A.in1) (by show X.A.units+1+n<cLine;omega) (by simpa using rx') (by simpa using ry')
end
end L2
namespace My
open PySem L2
noncomputable abbrev IL(ns:List Int):List V:=ns.map V.int
theorem Zz8(ns:List Int):(IL ns).length=ns.length:=Yy9 ..
theorem ZG7(a b:List Int):IL (a++b)=IL a++IL b:=Yz ..
theorem Zr1(a:List Int)(r:Int):IL (a++[r])=IL a++[.int r]:=Yz ..
theorem Zt8(a:List Int)(n:Nat):IL (a.take n)=(IL a).take n:=List.map_take ..
theorem ZW11(a:List Int)(n:Nat):IL (a.drop n)=(IL a).drop n:=List.map_drop ..
theorem Zz110(a:List Int)(n:Nat)(z:Int):IL (a.set n z)=(IL a).set n (.int z):=List.map_set ..
theorem Zh5{i:Nat}{z:Int}(h:ns[i]?=some z):(IL ns)[i]?=some (.int z):=by rw[Yg,h];rfl
theorem Zy1{i:Nat}{x:V}(h:(IL ns)[i]?=some x):∃z,x=.int z/\ns[i]?=some z:=by
 rw[Yg]at h;cases e:ns[i]? with
 |none=>rw[e]at h;cases h
 |some z=>rw[e]at h;exact⟨z,(Yl h).symm,Z⟩
theorem Zu{a:Addr}(hn:H a=none)(s:Same H H2):Same H (upd H2 a o):=λb u e=>by rw[Zd (Ze e hn)];exact s b u e
theorem ZA{p:Addr}(s:Same H H2)(hp:H2 p=none):Same H (upd H2 p o):=Zu (s.free hp) s
theorem Zz4{p:Addr}(hp:H p=none):Same H (upd H p o):=ZA (Same.refl H) hp
theorem ZG5(e:Same H H')(h:SqT K H a xs):SqT K H' a xs:=by
 rcases h with (h|⟨o,h⟩)|h
 ·exact .inl (.inl<|e _ _ h)
 ·exact .inl (.inr ⟨o,e _ _ h⟩)
 ·exact .inr h
theorem ZK1{n:Nat}(h:n<=1000000):n<=sizeLine:=Yv h J
theorem Zp{n:Nat}(h:n<=1000000):n<sizeLine:=Y2r h J
theorem hu8(hr:Room k A):A.units+8<cLine:=Y2r (Nat.add_le_add_left (by decide:8<=64) _) hr.units
theorem Zw{α:Type}{xs:List α}{i:Int}{n:Nat}{x:α}(hi:i=(n:Int))(h:xs[n]?=some x):atI xs i=some x:=by
 subst hi;have hn:n<xs.length:=(Yy4.mp h).1
 unfold atI ixN;rw[if_pos (Int.natCast_nonneg n),if_pos XT];simpa using h
theorem itd{c A XU:Prop}[Decidable c](hc:c)(h:A):if decide c=true then A else XU:=by rwa[if_pos (YG hc)]
theorem itdn{c A XU:Prop}[Decidable c](hc:¬c)(h:XU):if decide c=true then A else XU:=by rwa[if_neg (by simp[hc])]
theorem itn{c A XU:Prop}[Decidable c](hc:c)(h:XU):if (!decide c)=true then A else XU:=by rwa[if_neg (by simp[hc])]
theorem itnn{c A XU:Prop}[Decidable c](hc:¬c)(h:A):if (!decide c)=true then A else XU:=by rwa[if_pos (by simp[hc])]
theorem itd2{c A XU:Prop}[Decidable c](h1:c->A)(h2:¬c->XU):if decide c=true then A else XU:=by
 by_cases h:c
 ·exact itd h (h1 h)
 ·exact itdn h (h2 h)
theorem itn2{c A XU:Prop}[Decidable c](h1:c->XU)(h2:¬c->A):if (!decide c)=true then A else XU:=by
 by_cases h:c
 ·exact itn h (h1 h)
 ·exact itnn h (h2 h)
theorem itb{b:Bool}{A XU:Prop}(h1:b=true->A)(h2:b=false->XU):if b=true then A else XU:=by
 cases b with
 |true=>exact iteT (h1 Z)
 |false=>exact iteF (h2 Z)
theorem itnb{b:Bool}{A XU:Prop}(h1:b=true->XU)(h2:b=false->A):if (!b)=true then A else XU:=by
 cases b with
 |true=>exact iteF (h1 Z)
 |false=>exact iteT (h2 Z)
noncomputable def SqK(k:Bool)(K:PySem.W.Frag)(H:Hp)(a:Addr)(xs:List V):Prop:=match k with
 |false=>SqL K H a xs
 |true=>SqT K H a xs
theorem SqK.same(e:Same H H')(h:SqK k K H a xs):SqK k K H' a xs:=by
 cases k with
 |false=>exact e.seq h
 |true=>exact ZG5 e h
theorem SqK.or(h:SqK k K H a xs):SqL K H a xs\/SqT K H a xs:=by
 cases k with
 |false=>exact .inl h
 |true=>exact .inr h
noncomputable def iSeq(K:PySem.W.Frag)(tl:TE):TI:=λσ H R=>tl σ H λx H1=>∃a,x=.ref a/\(((∃xs,SqL K H1 a xs)/\R (Itl K a) H1)\/((∃xs,SqT K H1 a xs)/\R (Itt K a) H1))
theorem pi_seq(hl:PE X l tl):PI X tg l (iSeq X.K tl):=by
 intro pins s σ H R I h;refine thn (hl pins s σ H _ I h) λv s1 hz0=>?_;obtain⟨x,H1,I1,r1,q1⟩:=hz0;obtain⟨a,e,q⟩:=q1;subst e;cases r1;rcases q with ⟨⟨xs,hq⟩,q⟩|⟨⟨xs,hq⟩,q⟩
 ·obtain⟨its,rv,p,hz⟩:=I1.list hq;refine Y1H p.isList ?_;refine⟨s1.heap.objs.size,[s1.heap.objs.size],_,_,H1,Z,I1.kept (t':=s1.toks) λb o e=>Yy5 _ e,Zm4 a _,⟨_,Yk _ Z,Z,Z⟩,λb hb=>?_,q⟩;have e:b=s1.heap.objs.size:=by simpa using hb
  subst e;exact I1.fpOk (Yy6 _) (I1.hok.fresh<|Yy6 _)
 ·obtain⟨its,rv,p,hz⟩:=I1.tuple hq;refine Y2W (show s1.heap.IsTuple a its.toArray from p) ?_;refine⟨s1.heap.objs.size,[s1.heap.objs.size],_,_,H1,Z,I1.kept (t':=s1.toks) λb o e=>Yy5 _ e,Zg3 a _,⟨_,Yk _ Z,Z,Z⟩,λb hb=>?_,q⟩;have e:b=s1.heap.objs.size:=by simpa using hb
  subst e;exact I1.fpOk (Yy6 _) (I1.hok.fresh<|Yy6 _)
theorem Zy3{g:TG}{tb:TS}{D:Ends}(Pv:Nat->St->Hp->Prop)(h0:Pv 0 σ H)(hl:∀i σ H,i<=xs.length->Pv i σ H->SqK k K H a xs)
  (hs:∀i x σ H,xs[i]?=some x->Pv i σ H->g x σ H λσ2 H2=>tb {D with nx:=Pv<|i+1,ct:=Pv<|i+1,bk:=D.nx} σ2 H2)(hd:∀σ H,Pv xs.length σ H->D.nx σ H):
  (((∃xs,SqL K H a xs)/\∃W:Nat->Nat->St->Hp->Prop,(∃m,W 0 m σ H)/\∀i m σ H,W i m σ H->
   ((Itl K a).stop i H/\D.nx σ H)\/((Itl K a).go i H/\∃N:St->Hp->Prop,(∀σ' H',N σ' H'->∃m',m'<m/\W (i+1) m' σ' H')/\∀x H',(Itl K a).yld i H x H'->g x σ H' λσ2 H2=>tb {D with nx:=N,ct:=N,bk:=D.nx} σ2 H2))\/
  ((∃xs,SqT K H a xs)/\∃W:Nat->Nat->St->Hp->Prop,(∃m,W 0 m σ H)/\∀i m σ H,W i m σ H->
   ((Itt K a).stop i H/\D.nx σ H)\/((Itt K a).go i H/\∃N:St->Hp->Prop,(∀σ' H',N σ' H'->∃m',m'<m/\W (i+1) m' σ' H')/\∀x H',(Itt K a).yld i H x H'->g x σ H' λσ2 H2=>tb {D with nx:=N,ct:=N,bk:=D.nx} σ2 H2))):=by
 cases k with
 |false=>exact .inl ⟨⟨xs,hl 0 σ H (Yr _) h0⟩,Zr2 (K:=K) (a:=a) (xs:=xs) Pv h0 hl hs hd⟩
 |true=>exact .inr ⟨⟨xs,hl 0 σ H (Yr _) h0⟩,ZB8 (K:=K) (a:=a) (xs:=xs) Pv h0 hl hs hd⟩
noncomputable def PairV(H:Hp)(v:V)(p:Int×Int):Prop:=∃t,v=.ref t/\H t=some (.tup [.int p.1,.int p.2])
noncomputable def PairsV(H:Hp)(xs:List V)(ps:List (Int×Int)):Prop:=xs.length=ps.length/\∀(i:Nat)(p:Int×Int),ps[i]?=some p->∃v,xs[i]?=some v/\PairV H v p
theorem PairV.same(s:Same H H')(h:PairV H v p):PairV H' v p:=by obtain⟨t,e,q⟩:=h;exact⟨t,e,s _ _ q⟩
theorem PairsV.same(s:Same H H')(h:PairsV H xs ps):PairsV H' xs ps:=⟨h.1,λi p e=>by obtain⟨v,e1,q⟩:=h.2 i p e;exact⟨v,e1,q.same s⟩⟩
theorem PairsV.at(h:PairsV H xs ps){i:Nat}{v:V}(e:xs[i]?=some v):∃p,ps[i]?=some p/\PairV H v p:=by
 have hi:i<xs.length:=(Yy4.mp e).1;have hp:i<ps.length:=by rwa[<-h.1]
 obtain⟨v',e1,q⟩:=h.2 i ps[i] (Yy0 hp);rw[e]at e1;cases e1;exact⟨_,Yy0 hp,q⟩
theorem PairsV.nil:PairsV H [] []:=⟨Z,λi p e=>by simp at e⟩
theorem PairsV.snoc(h:PairsV H xs ps)(q:PairV H v p):PairsV H (xs++[v]) (ps++[p]):=by
 refine⟨by rw[Yy3,Yy3,h.1];rfl,λi p' e=>?_⟩;by_cases hi:i<ps.length
 ·rw[Ys hi]at e;rw[Ys (by rwa[h.1])];exact h.2 i p' e
 ·have hl:i=ps.length:=by
   have:=(Yy4.mp e).1
   rw[Yy3,Yw]at this;lia
  subst hl;rw[Yn (Yy6 _),Y0R]at e;rw[Yn (by rw[h.1];exact Yy6 _),h.1,Y0R];have e':p=p':=Yl e
  subst e';exact⟨v,Z,q⟩
theorem PairsV.drop(h:PairsV H xs ps)(n:Nat):PairsV H (xs.drop n) (ps.drop n):=by refine⟨by rw[Y0k,Y0k,h.1],λi p e=>?_⟩;rw[Y2u]at e ⊢;exact h.2 _ p e
theorem PairsV.take(h:PairsV H xs ps)(n:Nat):PairsV H (xs.take n) (ps.take n):=by
 refine⟨by rw[Yp,Yp,h.1],λi p e=>?_⟩;by_cases hi:i<n
 ·rw[Y3e hi]at e ⊢;exact h.2 _ p e
 ·rw[List.getElem?_take_eq_none O]at e;cases e
theorem PairsV.app(h:PairsV H xs ps)(h2:PairsV H ys qs):PairsV H (xs++ys) (ps++qs):=by
 refine⟨by rw[Yy3,Yy3,h.1,h2.1],λi p e=>?_⟩;by_cases hi:i<ps.length
 ·rw[Ys hi]at e;rw[Ys (by rwa[h.1])];exact h.2 i p e
 ·rw[Yn O]at e;rw[Yn (by rw[h.1];omega),h.1];exact h2.2 _ p e
theorem Zj14:¬(("places":Str)="ties"):=by decide +kernel
noncomputable def wf (n:Int) (tl:Addr):List (Str×V):=putF "ties" (.ref tl) (putF "places" (.int n) [])
theorem Zz71 (n:Int) (tl:Addr):(wf n tl).lookup ("places":Str)=some (.int n):=by unfold wf;rw[Zz01,if_neg Zj14,Zz01,if_pos Z]
theorem ZF1 (n:Int) (tl:Addr):(wf n tl).lookup ("ties":Str)=some (.ref tl):=by unfold wf;rw[Zz01,if_pos Z]
noncomputable def WebAt(C:Addr)(H:Hp)(w:Addr)(n:Int)(ps:List (Int×Int)):Prop:=∃dx tl xs,H w=some (.ins C dx<|wf n tl)/\H tl=some (.lst xs)/\PairsV H xs ps
theorem WebAt.same(s:Same H H')(h:WebAt C H w n ps):WebAt C H' w n ps:=by obtain⟨dx,tl,xs,a,b,c⟩:=h;exact⟨dx,tl,xs,s _ _ a,s _ _ b,c.same s⟩
noncomputable def ZL(n:Int)(ps:List (Int×Int)):Prop:=1<=n/\n<=14/\ps.length<=30/\∀p∈ps,0<=p.1/\p.1<n/\0<=p.2/\p.2<n
noncomputable def CXF (K:PySem.W.Frag) (mg:Str->Option Value) (x qual:Str) (st:Stmt) (fs:List Str):Prop:=∃C f fd,mg x=some (.ref C)/\Fun K "__init__" qual st f fd/\Cls K C/\Mk K C f/\∀a∈fs,NoAttr K C a
theorem cx_mk{mg:Str->Option Value}{oc:Value}{od an:Option Addr}{osl:Array (Option Value)}{kV doc pm cdv ct:Value}(X:K.In h)(G:h.Ns mainGlobals mg)
  (aC:PySem.W.nsIn K mainGlobals x=some (some<|.ref C))(a:PySem.W.findIn K (.ref C) "__init__"=some (some<|.ref f))(i:PySem.W.isFn K (.ref f)=true)
  (l:K.lookup f=some ⟨oc,od,.func<|PySem.W.fnOf "__init__" qual (ZZ1 st) (Zs1 st) (Zz9 st) .none kV doc pm an cdv ct,osl⟩)(c:PySem.W.codeIn K cdv qual=true)(k:PySem.W.keepIn K (.ref f)=true)
  (pg:PySem.W.plainGet K C Str.empty=true)(hd:PySem.W.hasDictIn K C=true)(po:PySem.W.plainOver K C=true)(sa:PySem.W.findIn K (.ref C) "__setattr__"=some (some<|.builtin "object.__setattr__"))(mk:PySem.W.makesIn K C=true)(kc:PySem.W.keepIn K (.ref C)=true)
  (na:∀a∈fs,PySem.W.findIn K (.ref C) a=some none):CXF K mg x qual st fs:=
 ⟨C,f,_,Y0j X G aC,ZL7 l c k,⟨pg,hd,po,sa⟩,⟨mk,a,i,kc⟩,na⟩
theorem const_mk{mg:Str->Option Value}{z:Int}{v:Value}(X:K.In h)(G:h.Ns mainGlobals mg)(a:PySem.W.nsIn K mainGlobals x=some (some v))(e:∃tk,v=.int z tk):∃tk,mg x=some (.int z tk):=by obtain⟨tk,rfl⟩:=e;exact⟨tk,Y0j X G a⟩
theorem nmY{x:V}{A XU:St->Hp->Prop}(h:A (σ.set i (some x)) H):Zz910 i x σ H λσ2 H2=>tYes σ2 H2 λb H3=>if b=true then A σ2 H3 else XU σ2 H3:=
 (show if true=true then A (σ.set i<|some x) H else XU (σ.set i<|some x) H from iteT h)
theorem nm{x:V}{Q:St->Hp->Prop}(h:Q (σ.set i (some x)) H):Zz910 i x σ H Q:=h
section
variable{K:PySem.W.Frag}{a:Addr}{xs:List V}{g:TG}{tt:TT}{te:TE}{o:Nat}{fr:List Nat}{σ:St}{H:Hp}{Q:VK}
noncomputable abbrev Zi4(Pv:Nat->List V->Hp->Prop)(g:TG)(tt:TT)(te:TE)(o:Nat)(fr:List Nat)(σ:St)(i:Nat)(x:V)(ys:List V)(H:Hp):Prop:=
 ∀XW:Nat->List V->Hp->Prop,(∀ys H,Pv (i+1) ys H->XW (i+1) ys H)->g x (σC o fr σ) H λσ2 H2=>tt σ2 H2 λb H3=>if b=true then te σ2 H3 λy H4=>XW (i+1) (ys++[y]) H4 else XW (i+1) ys H3
theorem Zx1(Pv:Nat->List V->Hp->Prop)(h0:Pv 0 [] H)(hz:xs.length<sizeLine)(hl:∀i ys H,i<=xs.length->Pv i ys H->SqL K H a xs/\ys.length<=i)
  (hs:∀i x ys H,xs[i]?=some x->Pv i ys H->Zi4 Pv g tt te o fr σ i x ys H)(hd:∀ys H,Pv xs.length ys H->∀p,H p=none->Q (.ref p) (upd H p<|.lst ys)):LcR (Itl K a) g tt te o fr σ H Q:=by
 refine⟨λi m ys H=>m=xs.length-i/\i<=xs.length/\Pv i ys H,⟨xs.length,B,Yr _,h0⟩,?_⟩;rintro i m ys H ⟨rfl,hi,p⟩;obtain⟨q,hy⟩:=hl i ys H hi p;by_cases hlt:i<xs.length
 ·refine .inr ⟨⟨xs,xs[i],q,by simp[hlt]⟩,O,λx H' zz=>?_⟩;obtain⟨e,y⟩:=zz;subst e;have hx:=y xs q
  exact hs i x ys _ hx p (λj ys H=>∃m',m'<xs.length-i/\m'=xs.length-j/\j<=xs.length/\Pv j ys H) λys H p'=>⟨xs.length-(i+1),XR,Z,hlt,p'⟩
 ·have e:i=xs.length:=O;subst e;exact .inl ⟨⟨xs,q,Yy6 _⟩,O,hd ys H p⟩
theorem Zo13(Pv:Nat->List V->Hp->Prop)(h0:Pv 0 [] H)(hz:xs.length<sizeLine)(hl:∀i ys H,i<=xs.length->Pv i ys H->SqT K H a xs/\ys.length<=i)
  (hs:∀i x ys H,xs[i]?=some x->Pv i ys H->Zi4 Pv g tt te o fr σ i x ys H)(hd:∀ys H,Pv xs.length ys H->∀p,H p=none->Q (.ref p) (upd H p<|.lst ys)):LcR (Itt K a) g tt te o fr σ H Q:=by
 refine⟨λi m ys H=>m=xs.length-i/\i<=xs.length/\Pv i ys H,⟨xs.length,B,Yr _,h0⟩,?_⟩;rintro i m ys H ⟨rfl,hi,p⟩;obtain⟨q,hy⟩:=hl i ys H hi p;by_cases hlt:i<xs.length
 ·refine .inr ⟨⟨xs,xs[i],q,by simp[hlt]⟩,XT,λx H' zz=>?_⟩;obtain⟨e,y⟩:=zz;subst e;have hx:=y xs q
  exact hs i x ys _ hx p (λj ys H=>∃m',m'<xs.length-i/\m'=xs.length-j/\j<=xs.length/\Pv j ys H) λys H p'=>⟨xs.length-(i+1),XT,Z,hlt,p'⟩
 ·have e:i=xs.length:=XT;subst e;exact .inl ⟨⟨xs,q,Yy6 _⟩,XT,hd ys H p⟩
theorem ZK11(Pv:Nat->List V->Hp->Prop)(h0:Pv 0 [] H)(hz:xs.length<sizeLine)(hl:∀i ys H,i<=xs.length->Pv i ys H->SqK k K H a xs/\ys.length<=i)
  (hs:∀i x ys H,xs[i]?=some x->Pv i ys H->Zi4 Pv g tt te o fr σ i x ys H)(hd:∀ys H,Pv xs.length ys H->∀p,H p=none->Q (.ref p) (upd H p<|.lst ys)):
  ((∃xs,SqL K H a xs)/\LcR (Itl K a) g tt te o fr σ H Q)\/((∃xs,SqT K H a xs)/\LcR (Itt K a) g tt te o fr σ H Q):=by
 cases k with
 |false=>exact .inl ⟨⟨xs,(hl 0 [] H (Yr _) h0).1⟩,Zx1 Pv h0 hz hl hs hd⟩
 |true=>exact .inr ⟨⟨xs,(hl 0 [] H (Yr _) h0).1⟩,Zo13 Pv h0 hz hl hs hd⟩
theorem Zm2(Pv:Nat->List V->Hp->Prop)(h0:Pv 0 [] H)(hz:n<sizeLine)(hl:∀i ys H,i<=n->Pv i ys H->ys.length<=i)
  (hs:∀i ys H,i<n->Pv i ys H->Zi4 Pv g tt te o fr σ i (.int<|lo+i) ys H)(hd:∀ys H,Pv n ys H->∀p,H p=none->Q (.ref p) (upd H p<|.lst ys)):LcR (Itr lo n) g tt te o fr σ H Q:=by
 refine⟨λi m ys H=>m=n-i/\i<=n/\Pv i ys H,⟨n,B,Yr _,h0⟩,?_⟩;rintro i m ys H ⟨rfl,hi,p⟩;have hy:=hl i ys H hi p
 by_cases hlt:i<n
 ·refine .inr ⟨hlt,O,λx H' zz=>?_⟩;obtain⟨e,y⟩:=zz;subst e;subst y;exact hs i ys _ hlt p (λj ys H=>∃m',m'<n-i/\m'=n-j/\j<=n/\Pv j ys H) λys H p'=>⟨n-(i+1),XR,Z,hlt,p'⟩
 ·have e:i=n:=O;subst e;exact .inl ⟨Yy6 _,O,hd ys H p⟩
end
theorem ZT2{α:Type}{l:List α}(h:l.Nodup){i j:Nat}{x:α}(a:l[i]?=some x)(b:l[j]?=some x):i=j:=by obtain⟨h1,e1⟩:=Yy4.mp a;obtain⟨h2,e2⟩:=Yy4.mp b;exact(List.getElem_inj h).mp (e1.trans e2.symm)
theorem ZR1{α:Type}{l:List α}{x d:α}(h:l[i]?=some x):l.getD i d=x:=by rw[Yy7,h];rfl
theorem Ze6{α:Type}{l:List α}{x:α}(h:l.Nodup)(hx:x∉l):(l++[x]).Nodup:=by rw[Yy15];refine⟨h,B,λa ha b hb=>?_⟩;rw[Yy2]at hb;subst hb;rintro rfl;exact hx ha
theorem ZJ6{g:TG}{tb:TS}{D:Ends}(Pv:Nat->St->Hp->Prop)(h0:Pv 0 σ H)(hl:∀i σ H,i<=xs.length->Pv i σ H->SqL K H a xs)
  (hs:∀(i:Nat) x σ H (p:Addr),H p=none->xs[i]?=some x->Pv i σ H->g (.ref p) σ (upd H p<|.tup [.int i,x]) λσ2 H2=>tb {D with nx:=Pv<|i+1,ct:=Pv<|i+1,bk:=D.nx} σ2 H2)(hd:∀σ H,Pv xs.length σ H->D.nx σ H):
  ∃W:Nat->Nat->St->Hp->Prop,(∃m,W 0 m σ H)/\∀i m σ H,W i m σ H->
   ((Ite K a).stop i H/\D.nx σ H)\/((Ite K a).go i H/\∃N:St->Hp->Prop,(∀σ' H',N σ' H'->∃m',m'<m/\W (i+1) m' σ' H')/\∀x H',(Ite K a).yld i H x H'->g x σ H' λσ2 H2=>tb {D with nx:=N,ct:=N,bk:=D.nx} σ2 H2):=by
 refine⟨λi m σ H=>m=xs.length-i/\i<=xs.length/\Pv i σ H,⟨xs.length,B,Yr _,h0⟩,?_⟩;rintro i m σ H ⟨rfl,hi,p⟩;have q:=hl i σ H hi p
 by_cases hlt:i<xs.length
 ·refine .inr ⟨⟨xs,xs[i],q,by simp[hlt]⟩,Pv<|i+1,λσ' H' p'=>⟨xs.length-(i+1),XT,Z,hlt,p'⟩,λx H' zz=>?_⟩;obtain⟨T,y,hT,ex,eH,hy⟩:=zz;subst ex eH;exact hs i y σ H T hT (hy xs q) p
 ·have e:i=xs.length:=O;subst e;exact .inl ⟨⟨xs,q,Yy6 _⟩,hd σ H p⟩
theorem Zq10{i:Int}(h0:0<=i)(h1:i.toNat<=xs.length):cutV xs (some i) none=xs.drop i.toNat:=by
 have e:HT.sIx xs.length 0 (some i)=i.toNat:=by show(if i<0 then (i+(xs.length:Int)).toNat else min i.toNat xs.length)=i.toNat;rw[if_neg O];lia
 unfold cutV;rw[e,HT.sIx_none];exact YL (by rw[Y0k];exact Yy6 _)
theorem ZA13{i:Int}(h0:0<=i)(h1:i.toNat<=xs.length):cutV xs none (some i)=xs.take i.toNat:=by
 have e:HT.sIx xs.length xs.length (some i)=i.toNat:=by show(if i<0 then (i+(xs.length:Int)).toNat else min i.toNat xs.length)=i.toNat;rw[if_neg XT];omega
 unfold cutV;rw[e,HT.sIx_none,List.drop_zero,Y2J]
end My
namespace L2
open PySem PySem.Spec PyProof.Rows
section
variable{X:Cx}{a o e:Expr}{es:List Expr}{ta to:TE}{t:TA}{pos:Pos}
theorem Zb(K:PySem.W.Frag)(h:X.K=K:=by rfl):IxR X (rIxL K):=h▸ZR11
theorem ZN(K:PySem.W.Frag)(h:X.K=K:=by rfl):IxR X (rIxT K):=h▸Zt13
theorem Zz11(K:PySem.W.Frag)(h:X.K=K:=by rfl):SlR X (rSlL K):=h▸ZX10
theorem ZA9(K:PySem.W.Frag)(h:X.K=K:=by rfl):OpR X (compareOp .In) (λx y H Q=>∃p xs,y=.ref p/\(SqL K H p xs\/SqT K H p xs)/\Zz54 x=true/\xs.all Zz54=true/\Q (.bl<|inV x xs) H):=h▸Zs7
theorem Zq11(K:PySem.W.Frag)(hu:X.A.units+8<cLine)(h:X.K=K:=by rfl):OpR X (compareOp .Eq) (rEqD K false):=h▸Zi13 hu
theorem ZC4(K:PySem.W.Frag)(hu:X.A.units+8<cLine)(h:X.K=K:=by rfl):OpR X (compareOp .NotEq) (rEqD K true):=h▸Zh13 hu
theorem ZC9(K:PySem.W.Frag)(h:X.K=K:=by rfl):OpR X (binaryOp .Add) (ZK13 K):=h▸Zr11
theorem ZK(K:PySem.W.Frag)(he:PE X e ta)(hb:attributeBase e f X.env (eval e X.env)=eval e X.env)(h:X.K=K:=by rfl):PE X (.Attribute e f pos) (tFld K ta f):=h▸Ze13 he hb
theorem Zh (K:PySem.W.Frag) (h:X.K=K:=by rfl):Zz12 X (.builtin "len") (λxs H Q=>∃p ys,xs=[.ref p]/\(SqL K H p ys\/SqT K H p ys)/\Q (.int ys.length) H):=h▸Zg4
theorem Zz51 (K:PySem.W.Frag) (h:X.K=K:=by rfl):Zz12 X (.type "list") (λxs H Q=>∃p ys,xs=[.ref p]/\(SqL K H p ys\/SqT K H p ys)/\∀l,H l=none->Q (.ref l) (upd H l<|.lst ys)):=h▸Ze4
theorem ZW1 (K:PySem.W.Frag) (h:X.K=K:=by rfl):Zz12 X (.type "tuple") (λxs H Q=>∃p ys,xs=[.ref p]/\((SqL K H p ys/\∀l,H l=none->Q (.ref l) (upd H l<|.tup ys))\/(SqT K H p ys/\Q (.ref p) H))):=h▸ZD3
theorem Zz83 (K:PySem.W.Frag) (hc:X.calm=true) (h:X.K=K:=by rfl):Zz12 X (.builtin "sum") (λxs H Q=>∃(p:Addr)(ns:List Int),xs=[.ref p]/\SqL K H p (ns.map V.int)/\Q (.int ns.sum) H):=h▸ZE3 hc
theorem ZU7 (K:PySem.W.Frag) (hc:X.calm=true) (h:X.K=K:=by rfl):Zz12 X (.type "set") (λxs H Q=>∃p ns,xs=[.ref p]/\SqL K H p (ns.map V.int)/\ns.length+1<scanBound/\
  ∀l,H l=none->Q (.ref l) (upd H l (.set (λk=>(seen ns).any (· == k)) (seen ns).length))):=h▸ZF3 hc
theorem ZS(K:PySem.W.Frag)(hl:PE X l tl)(h:X.K=K:=by rfl):PI X tg l (ZN13 K tl):=h▸Zf11 hl
theorem Zz06(K:PySem.W.Frag)(hl:PE X l tl)(h:X.K=K:=by rfl):PI X tg l (iTup K tl):=h▸Za13 hl
theorem Zh2(K:PySem.W.Frag)(hl:PE X l tl)(h:X.K=K:=by rfl):PI X tg l (My.iSeq K tl):=h▸My.pi_seq hl
theorem ZR2 (K:PySem.W.Frag) {elts:List Expr} {x1:Nat} {tpos:Pos} {a:Expr} {ta:TA} {p pos:Pos} (hg:Gl X "enumerate") (hm:X.mg "enumerate"=none) (ha:PA X [a] ta) (hs:starEach [a] X.env=[(false,eval a X.env)]:=by rfl) (h:X.K=K:=by rfl):
  PI X (.Tuple elts x1 tpos) (.Call (.Name "enumerate" p) [a] [] pos) (ZO13 K ta):=h▸Zg11 hg hm ha hs
theorem Zv1(K:PySem.W.Frag){es:List Expr}{k:Nat}{t:TGs}{n:Nat}(hc:X.calm=true)(ht:PGs X es t)
  (hn:(assignEach es X.env).length=n:=by rfl)(hst:(assignEach es X.env).findIdx? (·.1)=none:=by rfl)(h:X.K=K:=by rfl):PG X (.Tuple es k pos) (gTup K n t):=h▸Zb13 hc ht hn hst
theorem Zk1 (K:PySem.W.Frag) {name:Str} {apos cpos:Pos} {T id:String} {r:V->List V->Hp->VK->Prop} (pa:PlainAttrs T) (slot:Slot T name id) (hty:typeOf (.builtin id)=pure (.type "method_descriptor")) (hm:MtR X id r) (ho:PE X o to) (ha:PA X (e::es) t)
  (hbase:attributeBase o name X.env (eval o X.env)=eval o X.env:=by rfl)
  (hfew:((backTo cpos<|starEach (e::es) X.env).all (λx=>!x.1)&&(backToKw cpos<|keywordEach [] X.env).all (λx=>x.1.isSome)
   && decide ((e::es).length+([]:List Keyword).length+(if ([]:List Keyword).isEmpty then 0 else 1)<30))=true:=by rfl)
  (hline:(apos.endLine == cpos.line)=true:=by rfl)(hs:starEach (e::es) X.env=(false,eval e X.env)::starEach es X.env:=by rfl)(hplain:(backTo cpos<|starEach es X.env).any (·.1)=false:=by rfl)(h:X.K=K:=by rfl):
  PE X (.Call (.Attribute o name apos) (e::es) [] cpos) (tBM K T r to t):=h▸Zl14 pa slot hty hm ho ha hbase hfew hline hs hplain
theorem Zk11 (K:PySem.W.Frag) {name:Str} {apos cpos:Pos} {T id:String} {r:V->List V->Hp->VK->Prop} (pa:PlainAttrs T) (slot:Slot T name id) (hty:typeOf (.builtin id)=pure (.type "method_descriptor")) (hm:MtR X id r) (ho:PE X o to)
  (hbase:attributeBase o name X.env (eval o X.env)=eval o X.env:=by rfl)(hline:(apos.endLine == cpos.line)=true:=by rfl)(h:X.K=K:=by rfl):PE X (.Call (.Attribute o name apos) [] [] cpos) (tBM0 K T r to):=h▸Zf13 pa slot hty hm ho hbase hline
end
end L2
namespace My
noncomputable abbrev mk(m:List Int)(i:Nat):Int:=m.getD i 0
noncomputable def pm(m:List Int)(a b:Nat):List Int:=
 if min (mk m a) (mk m b)<max (mk m a) (mk m b) then m.map (λk=>if k=max (mk m a) (mk m b) then min (mk m a) (mk m b) else k) else m
noncomputable def lm(m:List Int)(a b:Nat):List Int:=
 if mk m a≠mk m b then m.map (λk=>if k=mk m b then mk m a else k) else m
noncomputable def SameP(m l:List Int):Prop:=m.length=l.length/\∀i j,i<m.length->j<m.length->(mk m i=mk m j↔mk l i=mk l j)
theorem ZY3(m:List Int)(f:Int->Int)(h:i<m.length):mk (m.map f) i=f (mk m i):=by simp[mk,Yy7,Yg,Yy0 h]
theorem ZM1(m:List Int)(a b:Nat):(pm m a b).length=m.length:=by unfold pm;split<;>simp
theorem Zz52(m:List Int)(a b:Nat):(lm m a b).length=m.length:=by unfold lm;split<;>simp
noncomputable def Mrg(m:List Int)(a b i j:Nat):Prop:=mk m i=mk m j\/((mk m i=mk m a\/mk m i=mk m b)/\(mk m j=mk m a\/mk m j=mk m b))
theorem Zp9{x y p q:Int}:((if x=q then p else x)=(if y=q then p else y))↔(x=y\/((x=p\/x=q)/\(y=p\/y=q))):=by grind
theorem Za8{x y p:Int}:x=y↔(x=y\/((x=p\/x=p)/\(y=p\/y=p))):=⟨.inl,λh=>h.elim id λh=>(h.1.elim id id).trans (h.2.elim id id).symm⟩
theorem Zz913(hi:i<m.length)(hj:j<m.length):mk (pm m a b) i=mk (pm m a b) j↔Mrg m a b i j:=by
 unfold pm Mrg;split
 ·rename_i h;rw[ZY3 _ _ hi,ZY3 _ _ hj];by_cases hpq:mk m a<mk m b
  ·rw[Yy34 (Y2S hpq),Int.max_eq_right (Y2S hpq)];exact Zp9
  ·rw[Y2Q (Y3p.mp hpq),Int.max_eq_left<|Y3p.mp hpq,Or.comm (a:=mk m i=mk m a),Or.comm (a:=mk m j=mk m a)];exact Zp9
 ·rename_i h;have hh:=Y3p.mp h
  rw[show mk m a=mk m b from Int.le_antisymm (Y1W (Int.le_max_left _ _)<|Y1W hh<|Int.min_le_right _ _) (Y1W (Int.le_max_right _ _)<|Y1W hh<|Int.min_le_left _ _)];exact Za8
theorem Zp6(hi:i<m.length)(hj:j<m.length):mk (lm m a b) i=mk (lm m a b) j↔Mrg m a b i j:=by
 unfold lm Mrg;split
 ·rename_i h;rw[ZY3 _ _ hi,ZY3 _ _ hj];exact Zp9
 ·rename_i h;rw[show mk m a=mk m b from Classical.not_not.mp h];exact Za8
theorem SameP.step{m l:List Int}(s:SameP m l){a b:Nat}(ha:a<m.length)(hb:b<m.length):SameP (pm m a b) (lm l a b):=by obtain⟨hl,h⟩:=s;refine⟨by rw[ZM1,Zz52,hl],λi j hi hj=>?_⟩;rw[ZM1]at hi hj;rw[Zz913 hi hj,Zp6 XT XT];unfold Mrg;rw[h i j hi hj,h i a hi ha,h i b hi hb,h j a hj ha,h j b hj hb]
noncomputable def pms(n:Nat)(es:List (Nat×Nat)):List Int:=es.foldl (λm e=>pm m e.1 e.2) ((List.range n).map λ(i:Nat)=>(i:Int))
noncomputable def lms(n:Nat)(es:List (Nat×Nat)):List Int:=es.foldl (λm e=>lm m e.1 e.2) ((List.range n).map λ(i:Nat)=>(i:Int))
theorem Zt(n:Nat)(es:List (Nat×Nat)):(pms n es).length=n:=by
 have:∀(es:List (Nat×Nat))(m:List Int),(es.foldl (λm e=>pm m e.1 e.2) m).length=m.length:=by
  intro es
  induction es with
  |nil=>intro m;rfl
  |cons e es ih=>intro m;rw[Y2e,ih,ZM1]
 unfold pms;rw[this];simp
theorem Zy(n:Nat)(es:List (Nat×Nat)):(lms n es).length=n:=by
 have:∀(es:List (Nat×Nat))(m:List Int),(es.foldl (λm e=>lm m e.1 e.2) m).length=m.length:=by
  intro es
  induction es with
  |nil=>intro m;rfl
  |cons e es ih=>intro m;rw[Y2e,ih,Zz52]
 unfold lms;rw[this];simp
theorem ZY5(n:Nat)(es:List (Nat×Nat))(e:Nat×Nat):pms n (es++[e])=pm (pms n es) e.1 e.2:=by unfold pms;rw[Y1w];rfl
theorem Zd1(n:Nat)(es:List (Nat×Nat))(e:Nat×Nat):lms n (es++[e])=lm (lms n es) e.1 e.2:=by unfold lms;rw[Y1w];rfl
theorem ZQ5:∀{es:List (Nat×Nat)},(∀e∈es,e.1<n/\e.2<n)->SameP (pms n es) (lms n es):=by
 intro es;have key:∀(es:List (Nat×Nat))(m l:List Int),SameP m l->m.length=n->(∀e∈es,e.1<n/\e.2<n)->SameP (es.foldl (λm e=>pm m e.1 e.2) m) (es.foldl (λm e=>lm m e.1 e.2) l):=by
  intro es
  induction es with
  |nil=>intro m l s _ _;exact s
  |cons e es ih=>
   intro m l s hm he;have h1:=he e Yb
   exact ih _ _ (s.step XT XT) (by rwa[ZM1]) λx hx=>he x (Yc _ hx)
 exact key es _ _ ⟨Z,λi j _ _=>Iff.rfl⟩ B
noncomputable def Zz24(g:List (Int×List Int))(place k:Int):List (Int×List Int):=
 if k∈g.map (·.1) then g.map (λkv=>if kv.1=k then (kv.1,kv.2++[place]) else kv) else g++[(k,[place])]
noncomputable def grpA(M:List Int):Nat->List (Int×List Int)
 |0=>[]
 |i+1=>Zz24 (grpA M i) (i:Int) (mk M i)
noncomputable def grp(M:List Int):List (Int×List Int):=grpA M M.length
theorem ZQ1(g:List (Int×List Int))(p k:Int):(Zz24 g p k).map (·.1)=if k∈g.map (·.1) then g.map (·.1) else g.map (·.1)++[k]:=by
 unfold Zz24;split
 ·rw[Y2i];refine YN λkv _=>?_;show(if kv.1=k then (kv.1,kv.2++[p]) else kv).1=kv.1
  split<;>rfl
 ·simp
theorem Zi5(h:(g.map (·.1)).Nodup):((Zz24 g p k).map (·.1)).Nodup:=by
 rw[ZQ1];split
 ·exact h
 ·rename_i hk;rw[Yy15];refine⟨h,B,λa ha b hb=>?_⟩;rw[Yy2]at hb;subst hb;rintro rfl;exact hk ha
theorem Zq2(M:List Int):∀i,((grpA M i).map (·.1)).Nodup
 |0=>by simp[grpA]
 |i+1=>Zi5 (Zq2 M i)
theorem grpA_mem(M:List Int):∀i kv,kv∈grpA M i->∀z:Int,z∈kv.2↔(0<=z/\z<(i:Int)/\mk M z.toNat=kv.1)
 |0,kv,h,z=>by simp[grpA]at h
 |i+1,kv,h,z=>by
  unfold grpA Zz24 at h;split at h
  ·rename_i hk;obtain⟨kv0,h0,e⟩:=Yt.mp h;have ih:=grpA_mem M i kv0 h0 z
   by_cases hc:kv0.1=mk M i
   ·rw[if_pos hc]at e;subst e;rw[Yj,ih,Yy2];constructor
    ·rintro(⟨a,b,c⟩|rfl)
     ·exact⟨a,O,c⟩
     ·exact⟨O,O,by simpa using hc.symm⟩
    ·rintro⟨a,b,c⟩;by_cases hz:z<(i:Int)
     ·exact .inl ⟨a,hz,c⟩
     ·exact .inr O
   ·rw[if_neg hc]at e;subst e;rw[ih];constructor
    ·rintro⟨a,b,c⟩;exact⟨a,XT,c⟩
    ·rintro⟨a,b,c⟩;refine⟨a,?_,c⟩;by_cases hz:z<(i:Int)
     ·exact hz
     ·have e:z.toNat=i:=XR;rw[e]at c;exact absurd c.symm hc
  ·rename_i hk;rcases Yj.mp h with h0|h0
   ·have ih:=grpA_mem M i kv h0 z;rw[ih];constructor
    ·rintro⟨a,b,c⟩;exact⟨a,O,c⟩
    ·rintro⟨a,b,c⟩;refine⟨a,?_,c⟩;by_cases hz:z<(i:Int)
     ·exact hz
     ·have e:z.toNat=i:=XR;rw[e]at c;exact absurd (Yt.mpr ⟨kv,h0,c.symm⟩) hk
   ·rw[Yy2]at h0;subst h0;simp only[Yy2];constructor
    ·rintro rfl;exact⟨O,O,B⟩
    ·rintro⟨a,b,c⟩;by_cases hz:z<(i:Int)
     ·exfalso;have key:=grpA_key M i z.toNat O
      rw[c]at key;exact hk key
     ·lia
where
 grpA_key (M:List Int):∀i j,j<i->mk M j∈(grpA M i).map (·.1)
  |0,j,h=>absurd h (Yy00 j)
  |i+1,j,h=>by
   show mk M j∈(Zz24 (grpA M i) (i:Int)<|mk M i).map (·.1);rw[ZQ1];by_cases hj:j<i
   ·have:=grpA_key M i j hj
    split
    ·exact this
    ·exact Yu _ this
   ·have e:j=i:=O;subst e;split
    ·assumption
    ·simp
theorem grpA_key(h:j<i):mk M j∈(grpA M i).map (·.1):=grpA_mem.grpA_key M i j h
theorem ZA1(M:List Int):∀i k,k∈(grpA M i).map (·.1)->∃j,j<i/\mk M j=k
 |0,k,h=>by simp[grpA]at h
 |i+1,k,h=>by
  have h:k∈(Zz24 (grpA M i) (i:Int)<|mk M i).map (·.1):=h;rw[ZQ1]at h;have old:k∈(grpA M i).map (·.1)->∃j,j<i+1/\mk M j=k:=λq=>by obtain⟨j,hj,e⟩:=ZA1 M i k q;exact⟨j,O,e⟩
  split at h
  ·exact old h
  ·rcases Yj.mp h with q|q
   ·exact old q
   ·rw[Yy2]at q;exact⟨i,O,q.symm⟩
theorem Zx8(hM:1<=M.length):(grp M).length=1↔∀i j,i<M.length->j<M.length->mk M i=mk M j:=by
 unfold grp;constructor
 ·intro h i j hi hj;obtain⟨kv,e⟩:=Yy28.mp h;have h1:=grpA_key (M:=M) hi
  have h2:=grpA_key (M:=M) hj;rw[e]at h1 h2;rw[Y1o,Yy2]at h1 h2;rw[h1,h2]
 ·intro h;have nd:=Zq2 M M.length
  have h0:=grpA_key (M:=M) (i:=M.length) (j:=0) O;generalize hg:(grpA M M.length)=g at *
  match g,hg with
  |[],_=>simp at h0
  |[kv],_=>rfl
  |a::b::r,hg=>
   exfalso;obtain⟨i,hi,e1⟩:=ZA1 M M.length a.1 (by rw[hg];simp)
   obtain⟨j,hj,e2⟩:=ZA1 M M.length b.1 (by rw[hg];simp);have e3:=h i j hi hj
   have:a.1=b.1:=by rw[<-e1,<-e2,e3]
   simp[this]at nd
theorem SameP.one(s:SameP m l):(∀i j,i<m.length->j<m.length->mk m i=mk m j)↔(∀i j,i<l.length->j<l.length->mk l i=mk l j):=by
 obtain⟨hl,h⟩:=s;rw[<-hl];constructor
 ·intro q i j hi hj;exact(h i j hi hj).mp (q i j hi hj)
 ·intro q i j hi hj;exact(h i j hi hj).mpr (q i j hi hj)
theorem Zz34:∀{i:Nat}{kv:Int×List Int},kv∈grpA M i->kv.2.length<=i
 |0,kv,h=>by simp[grpA]at h
 |i+1,kv,h=>by
  unfold grpA Zz24 at h;split at h
  ·obtain⟨kv0,h0,e⟩:=Yt.mp h;have ih:=Zz34 h0
   by_cases hc:kv0.1=mk M i
   ·rw[if_pos hc]at e;subst e;rw[Yy3,Yw];lia
   ·rw[if_neg hc]at e;subst e;lia
  ·rcases Yj.mp h with h0|h0
   ·have ih:=Zz34 h0;omega
   ·rw[Yy2]at h0;subst h0;simp
end My
namespace My
open PySem L2 PyProof.Rows
theorem ZV2(val:Nat->Int):∀i,(firstMet val i).Nodup
 |0=>List.nodup_nil
 |i+1=>by
  rw[Y2U];unfold step_dedup;split
  ·exact ZV2 val i
  ·rename_i h;refine Ze6 (ZV2 val i) λz=>h ?_;rw[Yy10];exact⟨val i,z,B⟩
theorem Zi8(val:Nat->Int):∀i (k:Int),k∈firstMet val i↔∃j,j<i/\val j=k
 |0,k=>by
  rw[firstMet_zero];constructor
  ·intro h;cases h
  ·rintro⟨j,h,_⟩;exact absurd h (Yy00 j)
 |i+1,k=>by
  rw[Y2U];have ih:=Zi8 val i k
  unfold step_dedup;split
  ·rename_i h;rw[ih];constructor
   ·rintro⟨j,hj,e⟩;exact⟨j,O,e⟩
   ·rintro⟨j,hj,e⟩;by_cases hji:j<i
    ·exact⟨j,hji,e⟩
    ·have e2:j=i:=O;subst e2;obtain⟨y,hy,ey⟩:=Yy10.mp h;have ey':y=val j:=by simpa using ey
     rw[ey',e]at hy;exact ih.mp hy
  ·rw[Yj,ih,Yy2];constructor
   ·rintro(⟨j,hj,e⟩|e)
    ·exact⟨j,XT,e⟩
    ·exact⟨i,O,e.symm⟩
   ·rintro⟨j,hj,e⟩;by_cases hji:j<i
    ·exact .inl ⟨j,hji,e⟩
    ·have e2:j=i:=XT;subst e2;exact .inr e.symm
theorem Zd9(h:1<=ns.length):(L2.seen ns).length=1↔∀i j,i<ns.length->j<ns.length->mk ns i=mk ns j:=by
 have nd:=ZV2 (λi=>ns.getD i 0) ns.length;have mm:=Zi8 (λi=>ns.getD i 0) ns.length
 unfold L2.seen;generalize firstMet (λi=>ns.getD i 0) ns.length=l at *;constructor
 ·intro h1 i j hi hj;obtain⟨x,e⟩:=Yy28.mp h1;have a:=(mm<|ns.getD i 0).mpr ⟨i,hi,Z⟩
  have b:=(mm<|ns.getD j 0).mpr ⟨j,hj,Z⟩;rw[e,Yy2]at a b;show ns.getD i 0=ns.getD j 0
  rw[a,b]
 ·intro q;have h0:=(mm<|ns.getD 0 0).mpr ⟨0,O,Z⟩
  match l,nd,mm,h0 with
  |[],_,_,h0=>cases h0
  |[x],_,_,_=>rfl
  |x::y::r,nd,mm,_=>
   exfalso;obtain⟨i,hi,e1⟩:=(mm x).mp B
   obtain⟨j,hj,e2⟩:=(mm y).mp B;have e3:ns.getD i 0=ns.getD j 0:=q i j hi hj
   have e:x=y:=by rwa[<-e1,<-e2]
   simp[e]at nd
theorem Zn2{K:PySem.W.Frag}{t:Value}:PySem.W.kitOne K t t=some true:=by unfold PySem.W.kitOne;rw[if_pos (beq_self_eq_true t)]
theorem Zz:decide (V.int a=V.int b)=decide (a=b):=by
 by_cases h:a=b
 ·subst h;simp
 ·have h':¬V.int a=V.int b:=λz=>h (V.int.inj z);rw[YR h,YR h']
end My
namespace My
open PySem L2
noncomputable def IsSet(m:Nat)(ns:List Int):Prop:=∀i z,ns[i]?=some z->0<=z/\z<(m:Int)/\∀y,i≠0->ns[i-1]?=some y->y<z
noncomputable def Za(ps:List (Int×Int))(ns:List Int):List (Nat×Nat):=ns.map λz=>((ps.getD z.toNat (0,0)).1.toNat,(ps.getD z.toNat (0,0)).2.toNat)
theorem ZI2{ns:List Int}{z:Int}(h:ns[i]?=some z):Za ps (ns.take (i+1))=Za ps (ns.take i)++[((ps.getD z.toNat (0,0)).1.toNat,(ps.getD z.toNat (0,0)).2.toNat)]:=by unfold Za;rw[YD,h];simp
theorem ZP1(h:i<m.length):m[i]?=some (mk m i):=by rw[Yy0 h];simp[mk,Yy7,Yy0 h]
theorem Zu4(n:Int):rngI 0 n=(List.range n.toNat).map λ(i:Nat)=>(i:Int):=by unfold rngI;rw[Y2P];refine YN λi _=>?_;lia
noncomputable def gkv(g:List (Int×List Int))(as:List Addr):List (Key×V):=List.zipWith (λkv a=>((Sum.inl kv.1:Key),V.ref a)) g as
theorem ZG6(h:as.length=g.length):(gkv g as).length=g.length:=by unfold gkv;rw[Y0e];grind
theorem Yz8:∀{g:List (Int×List Int)}{as:List Addr},as.length=g.length->(gkv g as).map (·.2)=as.map V.ref
 |[],[],_=>rfl
 |[],_::_,h=>by simp at h
 |_::_,[],h=>by simp at h
 |kv::g,a::as,h=>by show V.ref a::(gkv g as).map (·.2)=V.ref a::as.map V.ref;rw[Yz8 (Y1D h)]
theorem ZH6:∀{g g':List (Int×List Int)}{as:List Addr},g.map (·.1)=g'.map (·.1)->gkv g as=gkv g' as
 |[],[],_,_=>rfl
 |[],_::_,_,h=>by simp at h
 |_::_,[],_,h=>by simp at h
 |kv::g,kv'::g',[],_=>rfl
 |kv::g,kv'::g',a::as,h=>by
  rw[QP,QP,List.cons.injEq]at h;show((Sum.inl kv.1:Key),V.ref a)::gkv g as=((Sum.inl kv'.1:Key),V.ref a)::gkv g' as
  rw[h.1,ZH6 h.2]
theorem ZF6:∀{g:List (Int×List Int)}{as:List Addr}{kv:Int×List Int}{a:Addr},as.length=g.length->gkv (g++[kv]) (as++[a])=gkv g as++[((Sum.inl kv.1:Key),V.ref a)]
 |[],[],_,_,_=>rfl
 |[],_::_,_,_,h=>by simp at h
 |_::_,[],_,_,h=>by simp at h
 |x::g,y::as,kv,a,h=>by show _::gkv (g++[kv]) (as++[a])=_::(gkv g as++_);rw[ZF6 (Y1D h)]
theorem ZE6:∀{g:List (Int×List Int)}{as:List Addr}{k:Int},as.length=g.length->
  (valV (gkv g as) (Sum.inl k:Key)=none/\k∉g.map (·.1))\/∃(j:Nat)(kv:Int×List Int)(a:Addr),g[j]?=some kv/\as[j]?=some a/\kv.1=k/\valV (gkv g as) (Sum.inl k:Key)=some (.ref a)
 |[],[],k,_=>.inl ⟨Z,B⟩
 |[],_::_,_,h=>by simp at h
 |_::_,[],_,h=>by simp at h
 |kv::g,a::as,k,h=>by
  by_cases e:kv.1=k
  ·refine .inr ⟨0,kv,a,Z,Z,e,?_⟩;show valV (((Sum.inl kv.1:Key),V.ref a)::gkv g as) _=_
   rw[ZJ3 (by rw[e])]
  ·have e':¬((Sum.inl kv.1:Key)=Sum.inl k):=λz=>e (Sum.inl.inj z);have ev:valV (gkv (kv::g)<|a::as) (Sum.inl k:Key)=valV (gkv g as) (Sum.inl k:Key):=ZK3 (p:=((Sum.inl kv.1:Key),V.ref a)) e'
   rcases ZE6 (g:=g) (as:=as) (k:=k) (Y1D h) with ⟨h1,h2⟩|⟨j,kv',a',h1,h2,h3,h4⟩
   ·refine .inl ⟨by rw[ev];exact h1,?_⟩;rw[QP,Ye];rintro(z|z)
    ·exact e z.symm
    ·exact h2 z
   ·exact .inr ⟨j+1,kv',a',by simpa using h1,by simpa using h2,h3,by rwa[ev]⟩
structure GrpAt (H0 H:Hp) (g:List (Int×List Int)) (as:List Addr):Prop where
 len:as.length=g.length
 nd:as.Nodup
 at_:∀(i:Nat)(kv:Int×List Int)(a:Addr),g[i]?=some kv->as[i]?=some a->H a=some (.lst<|IL kv.2)
 new:∀a∈as,H0 a=none
theorem GrpAt.same(s:Same H H')(h:GrpAt H0 H g as):GrpAt H0 H' g as:=⟨h.len,h.nd,λi kv a e1 e2=>s _ _<|h.at_ i kv a e1 e2,h.new⟩
theorem GrpAt.mem(h:GrpAt H0 H g as){a:Addr}(ha:a∈as):∃l,H a=some (.lst l):=by
 obtain⟨i,hi,e⟩:=Y1e ha;have hg:i<g.length:=by rwa[<-h.len]
 exact⟨_,h.at_ i g[i] a (Yy0 hg)<|by rw[Yy0 hi,e]⟩
theorem IsSet.all(h:IsSet m ns):∀z∈ns,0<=z/\z<(m:Int):=λz hz=>by obtain⟨i,hi,e⟩:=Y1e hz;obtain⟨a,b,_⟩:=h i z (by rw[Yy0 hi,e]);exact⟨a,b⟩
theorem IsSet.nil(m:Nat):IsSet m []:=λi z e=>by simp at e
theorem IsSet.up(h:IsSet m ns):IsSet (m+1) ns:=λi z e=>by obtain⟨a,b,c⟩:=h i z e;exact⟨a,XT,c⟩
theorem IsSet.snoc(h:IsSet m ns):IsSet (m+1) (ns++[(m:Int)]):=λi z e=>by
 by_cases hi:i<ns.length
 ·rw[Ys hi]at e;obtain⟨a,b,c⟩:=h i z e;refine⟨a,O,λy h0 ey=>?_⟩;rw[Ys XT]at ey;exact c y h0 ey
 ·have hl:i=ns.length:=by
   have:=(Yy4.mp e).1
   rw[Yy3,Yw]at this;lia
  subst hl;rw[Yn (Yy6 _),Y0R]at e;have e:(m:Int)=z:=Yl e
  subst e;refine⟨O,O,λy h0 ey=>?_⟩;rw[Ys XT]at ey;exact(h _ y ey).2.1
theorem IsSet.len:∀{ns:List Int},IsSet m ns->ns.length<=m:=λ{ns} h=>by
 have key:∀(i:Nat)(z:Int),ns[i]?=some z->(i:Int)<=z:=by
  intro i
  induction i with
  |zero=>intro z e;exact(h 0 z e).1
  |succ i ih=>
   intro z e;have hi:i<ns.length:=by have:=(Yy4.mp e).1;lia
   have e2:ns[i]?=some ns[i]:=Yy0 hi
   have:=ih _ e2
   have:=(h (i+1) z e).2.2 ns[i] O (by rwa[Y2s])
   lia
 by_cases h0:ns.length=0
 ·lia
 ·have e:ns[ns.length-1]?=some (ns[ns.length-1]'(by lia)):=Yy0 _;have a:=key _ _ e
  have b:=(h _ _ e).2.1;lia
end My
namespace L2
open PySem PySem.Spec PyProof.Rows
section
variable{X:Cx}
theorem Zz65{its:Array Value}{bs:List Bool}(h:∀(i:Nat)(v:Value),its[i]?=some v->∃b,bs[i]?=some b/\v=.bool b):TruthOf prog w A (λi v=>its[i]?=some v) (λi=>bs.getD i false):=by
 intro i v s Q E hP hQ;obtain⟨b,eb,rfl⟩:=h i v hP;have hQ:Q (bs.getD i false) s:=hQ
 rw[Yy7,eb]at hQ;exact Y0J hQ
theorem ZA10(bs:List Bool):(List.range bs.length).any (λi=>bs.getD i false)=bs.any id:=by
 rw[Y0I,Yy10,Yy10];constructor
 ·rintro⟨i,hi,e⟩;have hi:=YE.mp hi
  rw[Yy7,Yy0 hi]at e;exact⟨_,Y0Z hi,e⟩
 ·rintro⟨b,hb,e⟩;obtain⟨i,hi,ei⟩:=Y1e hb;refine⟨i,YE.mpr hi,?_⟩;rwa[Yy7,Yy0 hi,ei]
theorem Zv10{bs:List Bool}(r:Vals (bs.map V.bl) its):∀(i:Nat)(v:Value),its.toArray[i]?=some v->∃b,bs[i]?=some b/\v=.bool b:=λi v e=>by
 have e:its[i]?=some v:=by simpa using e
 have hi:i<its.length:=(Yy4.mp e).1;obtain⟨x,ex,rx⟩:=r.at hi;rw[Yg]at ex;cases eb:bs[i]? with
 |none=>rw[eb]at ex;cases ex
 |some b=>
  rw[eb]at ex;have ex:V.bl b=x:=Yl ex
  subst ex;rw[Yy0 hi]at e;have e:its[i]=v:=Yl e
  rw[e]at rx;exact⟨b,Z,rx⟩
theorem ZW7 (K:PySem.W.Frag) (hc:X.calm=true) (h:X.K=K:=by rfl):Zz12 X (.builtin "any") (λxs H Q=>∃(p:Addr)(bs:List Bool),xs=[.ref p]/\SqL K H p (bs.map V.bl)/\Q (.bl<|bs.any id) H):=by
 subst h;intro pins s σ H xs us Q I r h;obtain⟨p,bs,rfl,hq,q⟩:=h;obtain⟨u,rfl,ru⟩:=Ze3 r;obtain rfl:u=Value.ref p:=ru;obtain⟨its,rv,pl,hz⟩:=I.list hq;have hl:its.toArray.size=bs.length:=by rw[Ya,<-rv.length,Yy9]
 have hne:p≠s.heap.objs.size:=Ym (by obtain⟨_,_,e,_⟩:=pl;exact Yi e);refine call_any_walk (Y1H pl.isList ⟨s.heap.objs.size,_,_,_,_,_,_,Z,Walks.list (A:=X.A.in1) (I.ok.hd hc) s.heap.objs.size p hne its.toArray,⟨⟨_,Yk _ Z,Z,Z⟩,pl.isList.push _⟩,Zz65<|Zv10 rv,λh' tk hk=>?_⟩);rw[hl,ZA10];refine⟨.bl<|bs.any id,H,I.kept λb o e=>hk b o ?_<|Yy5 _ e,Z,q⟩;intro z;rw[Yy2.mp z]at e;exact absurd (Yi e) (Y0p _)
end
end L2
namespace My
open PySem L2
section
variable{K:PySem.W.Frag}{H:Hp}{α:Type}[DecidableEq α]
noncomputable def Bears(R:V->α->Prop)(xs:List V)(l:List α):Prop:=xs.length=l.length/\∀(i:Nat)(a:α),l[i]?=some a->∃x,xs[i]?=some x/\R x a
theorem Bears.at{R:V->α->Prop}(h:Bears R xs l){i:Nat}{x:V}(e:xs[i]?=some x):∃a,l[i]?=some a/\R x a:=by
 have hi:i<xs.length:=(Yy4.mp e).1;have hl:i<l.length:=by rwa[<-h.1]
 obtain⟨x',e1,q⟩:=h.2 i l[i] (Yy0 hl);rw[e]at e1;cases e1;exact⟨_,Yy0 hl,q⟩
theorem Zw12{l m:List α}(h:l.length=m.length):(List.range l.length).all (λi=>decide (l[i]?=m[i]?))=decide (l=m):=by
 rw[Y0I,Yy03,YT];constructor
 ·intro q;refine Y0V λi=>?_;by_cases hi:i<l.length
  ·exact YO (q i<|YE.mpr hi)
  ·rw[YQ O,YQ O]
 ·rintro rfl i _;simp
theorem Zz13{R:V->α->Prop}(hp:SqL K H p xs)(hq:SqL K H q ys)(h1:Bears R xs l)(h2:Bears R ys m)(hR:∀x y a b,R x a->R y b->EqD K H n x y (decide (a=b))):EqD K H (n+1) (.ref p) (.ref q) (decide (l=m)):=by
 by_cases hl:xs.length=ys.length
 ·have e:=Zw12 (l:=l) (m:=m) (by rw[<-h1.1,<-h2.1,hl]);rw[<-e,<-h1.1];refine EqD.lsts hp hq hl λi x y ex ey=>?_;obtain⟨a,ea,ra⟩:=h1.at ex;obtain⟨b,eb,rb⟩:=h2.at ey;rw[ea,eb,show decide (some a=some b)=decide (a=b) by simp];exact hR x y a b ra rb
 ·have e:decide (l=m)=false:=YR λz=>hl (by rw[h1.1,h2.1,z]);rw[e];exact EqD.lens hp hq hl
theorem ZH3(ns:List Int):Bears (λx (z:Int)=>x=.int z) (IL ns) ns:=⟨Zz8 ns,λi z e=>⟨_,Zh5 e,Z⟩⟩
theorem Zz512{a b:Int}(hx:x=.int a)(hy:y=.int b):EqD K H n x y (decide (a=b)):=by
 subst hx hy;have e:decide (a=b)=eqV (.int a) (.int b):=by show decide (a=b)=(a == b);rw[Y3y]
 rw[e];exact EqD.flat Z rfl
theorem Zh10(hp:SqL K H p (IL ns))(hq:SqL K H q (IL ms)):EqD K H 1 (.ref p) (.ref q) (decide (ns=ms)):=
 Zz13 hp hq (ZH3 ns) (ZH3 ms) λ_ _ _ _=>Zz512
theorem Zz23{bs cs:List Bool}(hp:SqL K H p (bs.map V.bl))(hq:SqL K H q (cs.map V.bl)):EqD K H 1 (.ref p) (.ref q) (decide (bs=cs)):=by
 have be:∀bs:List Bool,Bears (λx (b:Bool)=>x=.bl b) (bs.map V.bl) bs:=λbs=>⟨Yy9 ..,λi b e=>⟨_,by rw[Yg,e];rfl,Z⟩⟩;refine Zz13 hp hq (be bs) (be cs) λx y a b hx hy=>?_;subst hx hy;have e:decide (a=b)=eqV (.bl a) (.bl b):=by show decide (a=b)=(a == b);rw[Y3y]
 rw[e];exact EqD.flat Z rfl
noncomputable def Zq5(H:Hp)(v:V)(l:List Int):Prop:=∃a,v=.ref a/\H a=some (.lst<|IL l)
end
end My
namespace My
noncomputable def fstB(M:List Int)(p:Nat):Bool:=(List.range p).all λi=>decide (mk M i≠mk M p)
noncomputable def posA(M:List Int)(k:Int)(i:Nat):List Int:=((List.range i).filter λj=>decide<|mk M j=k).map λ(j:Nat)=>(j:Int)
noncomputable def fstA(M:List Int)(i:Nat):List Nat:=(List.range i).filter (fstB M)
theorem fstB_iff:fstB M p=true↔∀i,i<p->mk M i≠mk M p:=by
 unfold fstB;rw[Yy03];constructor
 ·intro h i hi;exact YO (h i<|YE.mpr hi)
 ·intro h i hi;exact YG (h i<|YE.mp hi)
theorem ZP2(M:List Int)(k:Int)(i:Nat):posA M k (i+1)=posA M k i++(if mk M i=k then [(i:Int)] else []):=by
 unfold posA;rw[Y0q,Yy12,Yz];congr 1;by_cases h:mk M i=k
 ·rw[if_pos h,Y0w,if_pos (by simpa using h)];rfl
 ·rw[if_neg h,Y0w,if_neg (by simpa using h)];rfl
theorem ZM4(M:List Int)(i:Nat):fstA M (i+1)=fstA M i++(if fstB M i=true then [i] else []):=by
 unfold fstA;rw[Y0q,Yy12];congr 1;by_cases h:fstB M i=true
 ·rw[if_pos h,Y0w,if_pos h];rfl
 ·rw[if_neg h,Y0w,if_neg h];rfl
theorem Zy8(M:List Int):∀i,grpA M i=(fstA M i).map λp=>(mk M p,posA M (mk M p) i)
 |0=>rfl
 |i+1=>by
  have ih:=Zy8 M i;show Zz24 (grpA M i) (i:Int) (mk M i)=_
  have hk:(mk M i∈(grpA M i).map (·.1))↔fstB M i≠true:=by
   constructor
   ·intro h q;obtain⟨j,hj,e⟩:=ZA1 M i _ h;exact fstB_iff.mp q j hj e
   ·intro h;by_cases q:∃j,j<i/\mk M j=mk M i
    ·obtain⟨j,hj,e⟩:=q;rw[<-e];exact grpA_key hj
    ·exact absurd (fstB_iff.mpr λj hj e=>q ⟨j,hj,e⟩) h
  unfold Zz24;by_cases h:mk M i∈(grpA M i).map (·.1)
  ·have hf:=hk.mp h;rw[if_pos h,ZM4,if_neg hf,Yy04,ih,Y2i];refine YN λp _=>?_;show(if mk M p=mk M i then (mk M p,posA M (mk M p) i++[(i:Int)]) else (mk M p,posA M (mk M p) i))=(mk M p,posA M (mk M p)<|i+1)
   rw[ZP2];by_cases e:mk M p=mk M i
   ·rw[if_pos e,if_pos e.symm]
   ·rw[if_neg e,if_neg λz=>e z.symm,Yy04]
  ·have hf:fstB M i=true:=by
    cases q:fstB M i with
    |true=>rfl
    |false=>exact absurd (hk.mpr<|by rw[q];exact Yo) h
   rw[if_neg h,ZM4,if_pos hf,Yz,ih];congr 1
   ·refine YN λp hp=>?_;have hpi:p<i:=YE.mp (Yy.mp hp).1
    rw[ZP2,if_neg λz=>fstB_iff.mp hf p hpi z.symm,Yy04]
   ·show [(mk M i,[(i:Int)])]=[(mk M i,posA M (mk M i)<|i+1)];rw[ZP2,if_pos Z];have e0:posA M (mk M i) i=[]:=by unfold posA;rw[List.filter_eq_nil_iff.mpr λj hj=>by simpa using fstB_iff.mp hf j (YE.mp hj)];rfl
    rw[e0];rfl
end My
namespace My
open PySem L2
theorem Bears.snoc{α:Type}[DecidableEq α]{R:V->α->Prop}{xs:List V}{l:List α}{x:V}{a:α}(h:Bears R xs l)(hx:R x a):Bears R (xs++[x]) (l++[a]):=by
 refine⟨by rw[Yy3,Yy3,h.1];rfl,λi b e=>?_⟩;by_cases hi:i<l.length
 ·rw[Ys hi]at e;rw[Ys (by rwa[h.1])];exact h.2 i b e
 ·have hl:i=l.length:=by
   have:=(Yy4.mp e).1
   rw[Yy3,Yw]at this;lia
  subst hl;rw[Yn (Yy6 _),Y0R]at e;rw[Yn (by rw[h.1];exact Yy6 _),h.1,Y0R];have e':a=b:=Yl e
  subst e';exact⟨x,Z,hx⟩
theorem Bears.imp{α:Type}[DecidableEq α]{R R':V->α->Prop}{xs:List V}{l:List α}(h:Bears R xs l)(f:∀x a,R x a->R' x a):Bears R' xs l:=⟨h.1,λi a e=>by obtain⟨x,e1,r⟩:=h.2 i a e;exact⟨x,e1,f x a r⟩⟩
end My
namespace L2
open PySem PySem.Spec PyProof.Rows
theorem ObjOk.there(x:ObjOk P w H h a o):∃u,h.get? a=some u:=by
 cases o with
 |lst xs=>obtain⟨_,_,_,_,e⟩:=x;exact⟨_,e⟩
 |tup xs=>obtain⟨_,_,_,o,e,_⟩:=x;exact⟨_,e⟩
 |dK kvs=>obtain⟨_,_,_,_,o,_,_,e,_⟩:=x;exact⟨_,e⟩
 |dT kvs=>obtain⟨_,_,_,_,o,_,_,e,_⟩:=x;exact⟨_,e⟩
 |set XW n=>obtain⟨o,_,_,_,e,_⟩:=x;exact⟨_,e⟩
 |ins C dx fs=>obtain⟨_,_,_,e,_⟩:=x;exact⟨_,e⟩
 |own y=>exact x
 |xd fs=>obtain⟨_,⟨_,_,_,e,_⟩,_⟩:=x;exact⟨_,e⟩
 |rng lo hi=>obtain⟨_,_,_,e⟩:=x;exact⟨_,e⟩
 |frz ob u=>obtain⟨e,_⟩:=x;exact⟨_,e⟩
 |tbl ps=>exact⟨_,x⟩
 |met f y=>exact⟨_,x⟩
 |ext φ=>obtain⟨_,e,_⟩:=x;exact e
structure Fly (h0:Heap) (H:Hp) (e C:Addr) (h:Heap):Prop where
 ex:∃oe vs T oT ts a0,h.get? e=some oe/\oe.cls=.ref C/\oe.data=.fields vs/\vs[0]?=some a0/\vs[1]?=some (.ref T)/\T≠e/\h.get? T=some oT/\oT.data=.fields ts/\ts[3]?=some .none/\h0.get? T=none/\H T=none
 new:h0.get? e=none
 free:H e=none
noncomputable def CXW(P:Program)(w:World):CXT:=λouter H s E ev s'=>∃e C H',ev=Value.ref e/\s'.os=s.os/\AllBare s'.gens/\Un (frs outer) [] H H' s.heap s'.heap/\HOk P w H' s'.heap/\Fly s.heap H' e C s'.heap/\E (.ref C) none H'
section
variable{X:Cx}{pins:List (Addr×Obj)}{σ:St}{H:Hp}{s:Shared}{e C:Addr}
noncomputable abbrev grd(X:Cx)(h:Heap)(ns:List Addr):Heap:=PySem.W.hideAll h (frs X.stack++ns)
theorem ZX1{b:Addr}{o:Obj}(q:h.get? b=some o)(h1:b∉frs X.stack)(h2:b∉ns):(grd X h ns).get? b=some o:=
 PySem.W.hideAll_get _ q λz=>(Yj.mp z).elim h1 h2
theorem Zz710:(grd X h ns).StaysIn h:=λ_ _ q=>PySem.W.of_hideAll _ q
theorem Inv.was(I:Inv X pins σ H s)(hex:X.ex=[]){b:Addr}(h:s.heap.get? b=none):X.s₀.heap.get? b=none:=by
 cases q:X.s₀.heap.get? b with
 |none=>rfl
 |some o=>
  obtain⟨o',e⟩:=I.base.there b o q (by rw[hex];simp);rw[h]at e;cases e
theorem Zu8(ok:HOk P w H h)(hf:∀b∈frs X.stack,H b=none)(hns:∀b∈ns,H b=none)(k:(grd X h ns).StaysIn h'):HOk P w H h':=λa o q=>
 (ok a o q).stay (λb u hb g=>k b u (ZX1 g (λz=>by
  have:=hf b z
  rcases hb with rfl|hb
  ·rw[q]at this;cases this
  ·rw[hb]at this;cases this) λz=>by
  have:=hns b z
  rcases hb with rfl|hb
  ·rw[q]at this;cases this
  ·rw[hb]at this;cases this)) (λ_ z=>z) λ_ _ z=>z
theorem ZN7(hst:X.stack=X.env::X.outer)(hfr:X.env.frame=some X.env.locals):frs X.stack=X.env.locals::frs X.outer:=by rw[hst];unfold frs;rw[Y1f,hfr]
theorem ZV6(hst:X.stack=X.env::X.outer)(hfr:X.env.frame=some X.env.locals)(hex:X.ex=[])(I:Inv X pins σ H s)(hns:∀b∈ns,X.s₀.heap.get? b=none/\H b=none) 
  (hfl:Heap.FlyingW (grd X s.heap ns) X.outer e (.ref C) a0 h')(up:s.heap.UpToSlots h')(ne:X.s₀.heap.get? e=none)(fe:H e=none)(hE:E (.ref C) none H)(hs:s'.heap=h')(ho:s'.os=s.os)(hg:s'.gens=s.gens):
  CXW X.prog X.w X.outer X.H₀ X.s₀ E (.ref e) s':=by
 subst hs;have fst:=ZN7 (X:=X) hst hfr
 have noL:∀b o,X.s₀.heap.get? b=some o->b≠X.env.locals:=λb o q=>Ym (Yf (Yi q) I.ok.above);have nns:∀b o,X.s₀.heap.get? b=some o->b∉ns:=λb o q z=>by rw[(hns b z).1]at q;cases q
 have nfs:∀b o,X.s₀.heap.get? b=some o->b∉frs X.outer->b∉frs X.stack:=λb o q n z=>by
  rw[fst]at z;rcases Ye.mp z with z|z
  ·exact noL b o q z
  ·exact n z
 have nex:∀b,b∉X.ex:=λb z=>by rw[hex]at z;cases z
 have keep:∀b o u,X.s₀.heap.get? b=some o->b∉frs X.outer->s.heap.get? b=some u->s'.heap.get? b=some u:=λb o u q n g=>hfl.1 b u (ZX1 g (nfs b o q n)<|nns b o q);have slot:∀b u,b∈frs X.outer->s.heap.get? b=some u->∃sl,s'.heap.get? b=some {u with slots:=sl}:=λb u hb g=>by obtain⟨_,o',ho',hd⟩:=I.funs.mem hb;rw[g]at ho';cases ho';exact up b u g hd
 refine⟨e,C,H,Z,ho.trans I.os,hg▸I.bare,⟨λb o q n hb _=>?_,λb o q n hb _=>?_,λb o q n _=>I.base.free b o q n<|nex b,λb o q _=>?_,I.base.tups,I.base.frzs,I.base.tbls⟩,Zu8 I.hok I.stkFree (λb hb=>(hns b hb).2) hfl.1,⟨?_,ne,fe⟩,hE⟩
 ·exact keep b o o q hb (I.base.keep b o q n hb<|nex b)
 ·obtain⟨sl,g⟩:=I.base.slot b o q n hb (nex b);obtain⟨sl',g'⟩:=slot b _ hb g;exact⟨sl',g'⟩
 ·obtain⟨u,g⟩:=I.base.there b o q (nex b);by_cases hb:b∈frs X.outer
  ·obtain⟨sl,g'⟩:=slot b u hb g;exact⟨_,g'⟩
  ·exact⟨u,keep b o u q hb g⟩
 ·obtain⟨f1,f2,f3,oe,vs,T,oT,ts,he,⟨hc,h0⟩,hd,h1,hnT,hTe,hT,hdT,h3⟩:=hfl;refine⟨oe,vs,T,oT,ts,a0,he,hc,hd,h0,h1,hTe,hT,hdT,h3,?_,?_⟩
  ·cases q:X.s₀.heap.get? T with
   |none=>rfl
   |some o=>
    obtain⟨u,g⟩:=I.base.there T o q (nex T);by_cases hb:T∈frs X.outer
    ·obtain⟨_,o',ho',hd'⟩:=f3.mem hb;rw[hT]at ho';cases ho';exact absurd hdT (hd' ts)
    ·rw[ZX1 g (nfs T o q hb) (nns T o q)]at hnT;cases hnT
  ·cases q:H T with
   |none=>rfl
   |some ho=>
    obtain⟨u,g⟩:=(I.hok T ho q).there;rw[ZX1 g (λz=>by rw[I.stkFree T z]at q;cases q) (λz=>by rw[(hns T z).2]at q;cases q)]at hnT;cases hnT
theorem ZK6(hst:X.stack=X.env::X.outer)(I:Inv X pins σ H s)(F:Fly h0 H e C s.heap):∃T a0,Heap.FlyingW (grd X s.heap [e,T]) X.stack e (.ref C) a0 s.heap/\h0.get? T=none/\H T=none:=by obtain⟨oe,vs,T,oT,ts,a0,he,hc,hd,h0',h1,hTe,hT,hdT,h3,nT,fT⟩:=F.ex;refine⟨T,a0,⟨Zz710,Yy18 _ B,?_,oe,vs,T,oT,ts,he,⟨hc,h0'⟩,hd,h1,Yy18 _ B,hTe,hT,hdT,h3⟩,nT,fT⟩;exact Yy24 I.stack λenv henv a hf=>Yu _ (Y1n.mpr ⟨env,henv,hf⟩)
theorem Zy7(hst:X.stack=X.env::X.outer)(hfr:X.env.frame=some X.env.locals)(hex:X.ex=[])(I:Inv X pins σ H s)(F:Fly X.s₀.heap H e C s.heap)(hE:E (.ref C) none H){E':Value->Shared->Prop}:
  wpAny (model X.prog X.w) X.A (leaving X.env<|.ref e) (λ_ s''=>CXW X.prog X.w X.outer X.H₀ X.s₀ E (.ref e) s'') E' s:=by
 obtain⟨T,a0,fl,nT,fT⟩:=ZK6 hst I F;rw[hst]at fl;refine wpAny_leaves_onW (by rw[I.ok.frames,hst]) hfr fl λh' fl' up=>?_;refine ZV6 hst hfr hex I (λb hb=>?_) fl' up F.new F.free hE Z Z rfl;rcases Ye.mp hb with rfl|hb
 ·exact⟨F.new,F.free⟩
 ·rw[Yy2.mp hb];exact⟨nT,fT⟩
theorem Zs6(hst:X.stack=X.env::X.outer)(hfr:X.env.frame=some X.env.locals)(hex:X.ex=[])(I:Inv X pins σ H s)(hm:Heap.MadeExcOf s.heap h' e (.ref C) vs)(hE:E (.ref C) none H){E':Value->Shared->Prop}:
  wpAny (model X.prog X.w) X.A (leaving X.env<|.ref e) (λ_ s''=>CXW X.prog X.w X.outer X.H₀ X.s₀ E (.ref e) s'') E' {s with heap:=h'}:=by
 have ff:s.heap.FunFrames (grd X s.heap []) X.stack:=Yy24 I.stack λenv henv a hf=>Yu _ (Y1n.mpr ⟨env,henv,hf⟩);rw[hst]at ff;refine wpAny_leaves_madeW (base:=grd X s.heap []) (h:=s.heap) (by rw[I.ok.frames,hst]) hfr Zz710 ff hm λh'' t fl _ _ up=>?_;have fe:H e=none:=by
  cases q:H e with
  |none=>rfl
  |some ho=>
   obtain⟨u,g⟩:=(I.hok e ho q).there;rw[hm.new]at g;cases g
 exact ZV6 (s':={s with heap:=h''}) hst hfr hex I (λb hb=>by cases hb) fl ((Heap.UpToSlots.of_keeps hm.keeps).trans up) (I.was hex hm.new) fe hE Z Z rfl
theorem Inv.flown(I:Inv X pins σ H s)(h:CXW X.prog X.w X.stack H s E ev s'):∃e C H',ev=Value.ref e/\Inv X pins σ H' s'/\Fly s.heap H' e C s'.heap/\E (.ref C) none H':=by obtain⟨e,C,H',rfl,ho,hg,u,ok,F,hE⟩:=h;exact⟨e,C,H',Z,I.call' (ch:=[]) ho u ok hg (λ_ z=>nomatch z),F,hE⟩
theorem Fly.older(F:Fly h0 H e C h)(k:∀b,h0.get? b=none->h1.get? b=none):Fly h1 H e C h:=by obtain⟨oe,vs,T,oT,ts,a0,he,hc,hd,h0',h1',hTe,hT,hdT,h3,nT,fT⟩:=F.ex;exact⟨⟨oe,vs,T,oT,ts,a0,he,hc,hd,h0',h1',hTe,hT,hdT,h3,k _ nT,fT⟩,k _ F.new,F.free⟩
end
section
variable{P:Program}{w:World}{K:PySem.W.Frag}{mg:Str->Option Value}{base:Heap}
theorem pxs:Yz2 (CXW P w) (cxOf (CXW P w) P w K mg base N qual scope f cd A outer s H E) E:=by intro pins σ H1 s1 ev s' I h;obtain⟨e,C,H',rfl,XX,F,hE⟩:=I.flown h;exact Zy7 Z Z Z XX (F.older λb hb=>I.was Z hb) hE
theorem Fun.okX{x qual:Str}{st:Stmt}{f:Addr}{fd:FuncData}{N ps:List Str}{k:Nat}{sp:Sp}(F:Fun K x qual st f fd)(XW:FnScope N ps (Zz9 st))(len:∀vs H Q E,sp vs H Q E->vs.length=ps.length)
  (hbody:∀cdv A outer s H vs Q E,Room k (A.deeper<|envOfC qual (Zz9 st) s.heap.objs.size f cdv)->sp vs H Q E->
   ∃t,PSs (cxOf (CXW P w) P w K mg base N qual (Zz9 st) f cdv A outer s H E) (Zs1 st) t/\t {nx:=λ_ H'=>Q .non H',rt:=Q} (start N vs) H):FnOk P w K mg base (CXW P w) (k+1) f fd ps sp:=by obtain⟨oc,od,kV,doc,pm,an,cdv,ct,osl,rfl,lk,hcd⟩:=F.ex;exact ZQ13 lk hcd XW len λA outer s H vs Q E hr hsp=>hbody cdv A outer s H vs Q E hr hsp
end
structure XCls (K:PySem.W.Frag) (C:Addr):Prop where
 ex:PySem.W.excIn K C [.type "ValueError",.type "Exception",.type "BaseException",.type "object"] "ValueError.__new__"=true
 ga:PySem.W.findIn K (.ref C) "__getattribute__"=some (some<|.builtin "BaseException.__getattribute__")
 gh:PySem.W.findIn K (.ref C) "__getattr__"=some none
 cl:PySem.W.findIn K (.ref C) "__class__"=some (some<|.builtin "object.__class__")
 ob:PySem.W.mroIn K C (.type "object")=some true
 bx:PySem.W.mroIn K C (.type "BaseException")=some true
theorem XCls.obj {K:PySem.W.Frag} {C:Addr} {h:Heap} (c:XCls K C) (X:K.In h):∃bm N nm q bs hdct sn sub ab col dd k0 k1 k2 k3 k5 mN,h.get? C=some (excClassObj nm q C N bs bm hdct sn sub ab col dd k0 k1 k2 k3 k5 "ValueError.__new__")/\h.Ns N mN/\mN "__init__"=none/\OwnTail h [.type "ValueError",.type "Exception",.type "BaseException",.type "object"] bm:=by
 have q:=c.ex;unfold PySem.W.excIn at q;split at q
 ·rename_i dd cd sl ho;split at q
  ·rename_i C' bm k0 k1 k2 k3 n k5 hm hs;simp only[Y0P,Y1d,Bool.not_eq_true']at q;obtain⟨⟨⟨⟨⟨rfl,rfl⟩,hdel⟩,ht⟩,hok⟩,hni⟩:=q;obtain⟨nm,bs,mro,ns,qn,hd,sn,sub,ab,col,del⟩:=cd;dsimp only at hm hdel hok hni;subst hm hdel;have hsl:sl=#[k0,k1,k2,k3,some<|.builtin "ValueError.__new__",k5]:=by obtain⟨l⟩:=sl;simp only at hs;rw[hs]
   subst hsl;exact⟨bm,ns,nm,qn,bs,hd,sn,sub,ab,col,dd,k0,k1,k2,k3,k5,_,X _ _ ho,.of_isNs<|PySem.W.isNs_of_in X hok,PySem.W.nsMap_none_of_in X hok hni,PySem.W.tail_of_in X ht⟩
  ·cases q
 ·cases q
noncomputable def ZP12(C:Addr)(E:XK)(t:TA):TS:=λ_ σ H=>t σ H λvs H1=>vs.length<=sizeLine/\E (.ref C) none H1
theorem Zj1{P:Program}{w:World}{K:PySem.W.Frag}{mg:Str->Option Value}{base:Heap}{N:List Str}{qual:Str}{scope:Scope}{f:Addr}{cd:Value}{A:Around}{outer:List Env}{s0:Shared}{H0:Hp}{E:XK}{C:Addr}{x:Str}{np cpos pos:Pos}{e₀:Expr}{rest:List Expr}{t:TA}
  (c:XCls K C)(hm:mg x=some (.ref C))(ha:PA (cxOf (CXW P w) P w K mg base N qual scope f cd A outer s0 H0 E) (e₀::rest) t)
  (hg:Gl (cxOf (CXW P w) P w K mg base N qual scope f cd A outer s0 H0 E) x:=by rfl)(hd:(x == ("__debug__":Str))=false:=by decide)
  (he:starEach (e₀::rest) (cxOf (CXW P w) P w K mg base N qual scope f cd A outer s0 H0 E).env=(false,eval e₀ (cxOf (CXW P w) P w K mg base N qual scope f cd A outer s0 H0 E).env)::starEach rest (cxOf (CXW P w) P w K mg base N qual scope f cd A outer s0 H0 E).env:=by rfl)
  (hplain:(backTo cpos<|starEach rest (cxOf (CXW P w) P w K mg base N qual scope f cd A outer s0 H0 E).env).any (·.1)=false:=by rfl):
  PS (cxOf (CXW P w) P w K mg base N qual scope f cd A outer s0 H0 E) (.Raise (some<|.Call (.Name x np) (e₀::rest) [] cpos) none pos) (ZP12 C E t):=by
 intro pins s σ H D I h;obtain⟨tl,NN,nm,q,bs,hdct,sn,sub,ab,col,dd,k0,k1,k2,k3,k5,mN,hC,hN,hni,T⟩:=c.obj I.ok.mod.kin;refine wpAny_Raise_call_subT (C:=C) (nm:=nm) (q:=q) (N:=NN) (bs:=bs) (bm:=tl) (hdct:=hdct) (sn:=sn) (sub:=sub) (ab:=ab) (col:=col) (dd:=dd) (k0:=k0) (k1:=k1) (k2:=k2) (k3:=k3) (k5:=k5)
  Y2Y (mN:=mN) (T.hasType Y2Y.hasBase) (I.ok.hd Z) (by rw[he];show(false||(backTo cpos<|starEach rest _).any (·.1))=false;rw[hplain];rfl) hni (ZG2 I hg hm ⟨Z,?_⟩ hd)
 have h:=ha cpos pins s σ H _ I h;rw[he]at h ⊢;refine Calls.evalArgs_plain (Yy07 h (λvs s₂ h₂=>?_) λ_ _ y=>y);obtain⟨zs,H2,I2,rz,hz,hE⟩:=h₂;refine⟨Z,by rw[<-rz.length];exact hz,I2.bk _ _ hC,hN.keeps I2.bk,T.keeps I2.bk,λh' e hme=>?_⟩;exact Zs6 Z Z Z I2 hme hE
section
variable{X:Cx}{pins:List (Addr×Obj)}{σ:St}{H:Hp}{s:Shared}{e:Addr}
theorem Inv.held(I:Inv X pins σ H s){tk:Nat}(hns:∀b∈ns,X.s₀.heap.get? b=none/\H b=none/\(∀p∈X.pn++pins,p.1≠b))(k:(grd X s.heap ns).StaysIn h')(up:s.heap.UpToSlots h'):Inv X pins σ H {s with heap:=h',toks:=tk}:=by
 have nns:∀b o,X.s₀.heap.get? b=some o->b∉ns:=λb o q z=>by rw[(hns b z).1]at q;cases q
 have noL:∀b o,X.s₀.heap.get? b=some o->b≠X.env.locals:=λb o q=>Ym (Yf (Yi q) I.ok.above);have nfs:∀b,b≠X.env.locals->b∉X.fs->b∉frs X.stack:=λb h1 h2 z=>(Ye.mp<|I.stkSub b z).elim h1 h2
 have slot:∀b u,b∈X.fs->s.heap.get? b=some u->∃sl,h'.get? b=some {u with slots:=sl}:=λb u hb g=>by obtain⟨_,o',ho',hd⟩:=I.funs.mem hb;rw[g]at ho';cases ho';exact up b u g hd
 have cellK:∀c v,s.heap.IsCell c v->h'.IsCell c v:=λc v ⟨o,ho,hd⟩=>by
  obtain⟨sl,g⟩:=up c o ho λvs q=>by rw[hd]at q;cases q
  exact⟨_,g,hd⟩
 refine⟨I.ok,I.os,I.bare,⟨λb o q n hb hx=>?_,λb o q n hb hx=>?_,I.base.free,λb o q hx=>?_,I.base.tups,I.base.frzs,I.base.tbls⟩,?_,λx c q=>?_,I.free,I.freeC,λp hp=>?_,Zu8 I.hok I.stkFree (λb hb=>(hns b hb).2.1) k,I.len⟩
 ·exact k b o (ZX1 (I.base.keep b o q n hb hx) (nfs b (noL b o q) hb)<|nns b o q)
 ·obtain⟨sl,g⟩:=I.base.slot b o q n hb hx;obtain⟨sl',g'⟩:=slot b _ hb g;exact⟨sl',g'⟩
 ·obtain⟨u,g⟩:=I.base.there b o q hx;by_cases hb:b∈X.fs
  ·obtain⟨sl,g'⟩:=slot b u hb g;exact⟨_,g'⟩
  ·exact⟨u,k b u<|ZX1 g (nfs b (noL b o q) hb)<|nns b o q⟩
 ·obtain⟨m,hn,hl⟩:=I.loc;refine⟨m,up.ns hn,λi x v e1 e2 e3=>?_⟩;obtain⟨u,r,l⟩:=hl i x v e1 e2 e3;refine⟨u,r,?_⟩;rcases l with l|⟨kk,c,q,z⟩
  ·exact .inl l
  ·exact .inr ⟨kk,c,q,cellK c _ z⟩
 ·obtain⟨v,z⟩:=I.cell x c q;exact⟨v,cellK c v z⟩
 ·obtain⟨q,n,ne,nf,d⟩:=I.pin p hp;exact⟨k p.1 p.2<|ZX1 q (nfs p.1 ne nf) λz=>(hns p.1 z).2.2 p hp Z,n,ne,nf,d⟩
theorem Inv.gone(I:Inv X pins σ H s)(hN:X.N.Nodup){i:Nat}{n:Str}{tk:Nat}{m:Str->Option Value}{v:Option Value}(hi:X.N[i]?=some n)(hn:s.heap.Ns X.env.locals m)
  (hn':h'.Ns X.env.locals λx=>if x=n then v else m x)(hs:Heap.SameBut X.env.locals s.heap h'):Inv X pins (σ.set i none) H {s with heap:=h',toks:=tk}:=by
 obtain⟨m0,hn0,hl⟩:=id I.loc;have em:m0=m:=by
  funext x
  obtain⟨o,es,ep,ho,hd,_,hf⟩:=hn0;obtain⟨o',es',ep',ho',hd',_,hf'⟩:=hn;rw[ho]at ho';cases ho';rw[hd]at hd';cases hd';rw[<-hf,<-hf']
 subst em;have cne:=I.cne
 have hiσ:i<σ.length:=by rw[I.len];exact(Yy4.mp hi).1
 obtain⟨oL,_,_,hoL,_⟩:=id hn;refine⟨I.ok,I.os,I.bare,⟨λb o q n hb hx=>?_,λb o q n hb hx=>?_,I.base.free,λb o q hx=>?_,I.base.tups,I.base.frzs,I.base.tbls⟩,⟨_,hn',λj y v' e1 e2 e3=>?_⟩,λy c q=>?_,I.free,I.freeC,λp hp=>?_,λb ob q=>?_,by simpa using I.len⟩
 ·exact(hs.2 b<|Ym<|Yf (Yi q) I.ok.above).trans (I.base.keep b o q n hb hx)
 ·obtain⟨sl,e1⟩:=I.base.slot b o q n hb hx;exact⟨sl,(hs.2 b<|Ym<|Yf (Yi q) I.ok.above).trans e1⟩
 ·obtain⟨o',e1⟩:=I.base.there b o q hx;exact⟨o',(hs.2 b<|Ym<|Yf (Yi q) I.ok.above).trans e1⟩
 ·by_cases hj:j=i
  ·subst hj;rw[Y1u hiσ]at e2;cases e2
  ·rw[Y1F (YU hj)]at e2;obtain⟨u',r',q⟩:=hl j y v' e1 e2 e3;refine⟨u',r',?_⟩;rcases q with ⟨k,e⟩|⟨k,c,e,z⟩
   ·refine .inl ⟨k,?_⟩
    have:y≠n:=λe=>hj (ZV3 hN e1<|e▸hi)
    simp[this,e]
   ·exact .inr ⟨k,c,e,z.sameBut hs<|cne y c e⟩
 ·obtain⟨w',z⟩:=I.cell y c q;exact⟨w',z.sameBut hs<|cne y c q⟩
 ·obtain⟨q,n,ne,nf,d⟩:=I.pin p hp;exact⟨(hs.2 p.1 ne).trans q,n,ne,nf,d⟩
 ·refine(I.hok b ob q).stay (λc w' hc q'=>(hs.2 c ?_).trans q') (λ_ q=>q) λ_ _ q=>q;rintro rfl;rcases hc with z|hc
  ·subst z;rw[I.free]at q;cases q
  ·rw[I.free]at hc;cases hc
end
noncomputable abbrev ZY8(X:Cx)(pins:List (Addr×Obj))(R:St->XK):Cx:={X with pn:=X.pn++pins,xe:=λev s'=>∃σ H1 s1,Inv X pins σ H1 s1/\CXW X.prog X.w X.stack H1 s1 (R σ) ev s'}
noncomputable abbrev ZE12(X:Cx)(pins:List (Addr×Obj))(e:Addr)(oe:Obj):Cx:={X with A:=X.A.mark<|some<|.ref e,calm:=false,pn:=X.pn++pins++[(e,oe)],xe:=λ_ _=>False}
section
variable{X:Cx}{pins pins':List (Addr×Obj)}{σ:St}{H:Hp}{s:Shared}{R:St->XK}{e:Addr}{oe:Obj}
theorem Inv.inTry(I:Inv X pins σ H s):Inv (ZY8 X pins R) [] σ H s:=
 ⟨⟨I.ok.mod,I.ok.kind,I.ok.glob,I.ok.blt,I.ok.above,I.ok.inj,I.ok.has,I.ok.cab,I.ok.hd,I.ok.frames,I.ok.stk,I.ok.exf,I.ok.bs,I.ok.bsz,I.ok.noex,I.ok.exfs,I.ok.funs,I.ok.frf⟩,I.os,I.bare,I.base,I.loc,I.cell,I.free,I.freeC,λp hp=>I.pin p (by simpa using hp),I.hok,I.len⟩
theorem Inv.outTry(I:Inv (ZY8 X pins R) pins' σ H s):Inv X pins σ H s:=
 ⟨⟨I.ok.mod,I.ok.kind,I.ok.glob,I.ok.blt,I.ok.above,I.ok.inj,I.ok.has,I.ok.cab,I.ok.hd,I.ok.frames,I.ok.stk,I.ok.exf,I.ok.bs,I.ok.bsz,I.ok.noex,I.ok.exfs,I.ok.funs,I.ok.frf⟩,I.os,I.bare,I.base,I.loc,I.cell,I.free,I.freeC,λp hp=>I.pin p<|Yu _ hp,I.hok,I.len⟩
theorem SP.outTry{f:Flow}(h:SP (ZY8 X pins R) [] D f s):SP X pins D f s:=by
 cases f with
 |next=>obtain⟨σ',H',I,q⟩:=h;exact⟨σ',H',I.outTry,q⟩
 |brk=>obtain⟨σ',H',I,q⟩:=h;exact⟨σ',H',I.outTry,q⟩
 |cont=>obtain⟨σ',H',I,q⟩:=h;exact⟨σ',H',I.outTry,q⟩
 |ret u=>obtain⟨v,σ',H',I,r,q⟩:=h;exact⟨v,σ',H',I.outTry,r,q⟩
theorem Inv.inHan(I:Inv X pins σ H s)(h1:s.heap.get? e=some oe)(h2:H e=none)(h3:e≠X.env.locals)(h4:e∉X.fs)(h5:∀v,oe.data≠.cell v):Inv (ZE12 X pins e oe) [] σ H s:=
 ⟨⟨I.ok.mod,I.ok.kind,I.ok.glob,I.ok.blt,I.ok.above,I.ok.inj,I.ok.has,I.ok.cab,(λz=>(nomatch z)),I.ok.frames,I.ok.stk,I.ok.exf,I.ok.bs,I.ok.bsz,I.ok.noex,I.ok.exfs,I.ok.funs,I.ok.frf⟩,I.os,I.bare,I.base,I.loc,I.cell,I.free,I.freeC,λp hp=>by
  rw[Yy04]at hp;rcases Yj.mp hp with z|z
  ·exact I.pin p z
  ·rw[Yy2.mp z];exact⟨h1,h2,h3,h4,h5⟩,I.hok,I.len⟩
theorem Inv.outHan(hd:X.calm=true->X.A.handled=none)(fr:X.A.frames=some X.stack)(I:Inv (ZE12 X pins e oe) pins' σ H s):Inv X pins σ H s:=
 ⟨⟨I.ok.mod,I.ok.kind,I.ok.glob,I.ok.blt,I.ok.above,I.ok.inj,I.ok.has,I.ok.cab,hd,fr,I.ok.stk,I.ok.exf,I.ok.bs,I.ok.bsz,I.ok.noex,I.ok.exfs,I.ok.funs,I.ok.frf⟩,I.os,I.bare,I.base,I.loc,I.cell,I.free,I.freeC,λp hp=>I.pin p<|Yu _<|Yu _ hp,I.hok,I.len⟩
end
noncomputable def Zz35(CX:CXT)(X:Cx)(R:St->XK):Prop:=∀pins σ H s e s',Inv X pins σ H s->CX X.stack H s (R σ) e s'->X.xe e s'
theorem pxT{R:St->XK}(hP:P=X.prog:=by rfl)(hw:w=X.w:=by rfl):Zz35 (CXW P w) (ZY8 X pins R) R:=by subst hP hw;exact λ_ σ H s _ _ I h=>⟨σ,H,s,I.outTry,h⟩
noncomputable def ZT12(sp:Sp)(dvs:List V)(R:St->XK)(t:TA):TE:=λσ H Q=>t σ H λvs H1=>sp (vs++dvs) H1 Q (R σ)
section
variable{X:Cx}{CX:CXT}{k:Nat}{f:Addr}{fd:FuncData}{ps:List Str}{sp:Sp}{dvs:List V}{ds:List Value}{R:St->XK}{x:Str}{p pos:Pos}{e:Expr}{es:List Expr}{t:TA}
theorem Zz98(F:FnOk X.prog X.w X.K X.mg X.base CX k f fd ps sp)(hr:Room k X.A)(hb:Binds X.K fd ps ds)(hd:Vals dvs ds)(hx:Zz35 CX X R)
  (I:Inv X pins σ H s)(r:Vals vs us)(h:sp (vs++dvs) H Q (R σ)):wpAny (model X.prog X.w) X.A (call (.ref f) us) (EP X pins σ Q) X.xe s:=by
 have r2:Vals (vs++dvs) (us++ds):=r.append hd;have hl:(us++ds).length=ps.length:=by rw[<-r2.length];exact F.len _ _ _ _ h
 refine wpAny_call (Y1B (F.run X.A X.stack s H ⟨us,[]⟩ (us++ds) (vs++dvs) Q (R σ) hr I.env0 (hb s us I.kIn hl) r2 h) λr s' hq=>?_);cases r with
 |error e=>exact hx pins σ H s e s' I hq
 |ok fl=>
  cases fl with
  |ret u=>exact I.after hq
  |next=>exact False.elim hq
  |brk=>exact False.elim hq
  |cont=>exact False.elim hq
theorem Zx9(F:FnOk X.prog X.w X.K X.mg X.base CX k f fd ps sp)(hr:Room k X.A)(hg:Gl X x)(hm:X.mg x=some (.ref f))(hk:PySem.W.keepIn X.K (.ref f)=true)(hb:Binds X.K fd ps ds)(hd:Vals dvs ds)(hx:Zz35 CX X R)
  (ha:PA X (e::es) t)(hdb:(x == ("__debug__":Str))=false:=by decide)(he:starEach (e::es) X.env=(false,eval e X.env)::starEach es X.env:=by rfl)(hpl:(backTo pos<|starEach es X.env).any (·.1)=false:=by rfl):
  PE X (.Call (.Name x p) (e::es) [] pos) (ZT12 sp dvs R t):=by intro pins s σ H Q I h;refine Y0y (ZG2 I hg hm ?_ hdb);refine Y1P (h₀:=X.base) I.ok.mod.kin hk (thn (ha pos pins s σ H _ I h) λus s1 ⟨vs,H1,I1,r,q⟩=>⟨I1.kIn,?_⟩) he hpl;exact Zz98 F hr hb hd hx I1 r q
end
noncomputable def Ends.less(D:Ends)(i:Nat):Ends:={nx:=λσ H=>D.nx (σ.set i none) H,rt:=D.rt,bk:=λσ H=>D.bk (σ.set i none) H,ct:=λσ H=>D.ct (σ.set i none) H}
noncomputable def tTry(K:PySem.W.Frag)(W:Addr)(i:Nat)(tb:(St->XK)->TS)(th:Addr->Addr->TS):TS:=λD σ H=>
 tb (λσ' c _ H'=>∃C,c=Value.ref C/\PySem.W.exmOne K (.ref C) (.ref W)=some true/\∀e:Addr,H' e=none->th e C (D.less i) (σ'.set i<|some<|.ref e) H') D σ H
theorem Zz713{x n:Str}{np hpos pos:Pos}{b₀:Stmt}{suite:List Stmt}{tb:(St->XK)->TS}{th:Addr->Addr->TS}
  (hst:X.stack=X.env::X.outer)(hfr:X.env.frame=some X.env.locals)(hex:X.ex=[])(hN:X.N.Nodup)(hi:X.N[i]?=some n)(hl:X.env.kindOf n=some .local)(hm:X.mg x=some (.ref W))(hg:Gl X x)
  (hb:∀R pins,PSs (ZY8 X pins R) body<|tb R)(hs:∀e C oe pins,oe.cls=.ref C->PSs (ZE12 X pins e oe) (b₀::suite) (th e C))(hdb:(x == ("__debug__":Str))=false:=by decide):
  PS X (.Try body [.ExceptHandler (some<|.Name x np) (some n) (b₀::suite) hpos] [] [] pos) (tTry X.K W i tb th):=by
 intro pins s σ H D I h;refine wpAny_Try_except (Yy07 (hb _ pins [] s σ H D I.inTry h) (λf s1 q=>?_) λev s1 q=>?_)
 ·have q:=SP.outTry q;cases f with
  |next=>exact Y1Z q
  |brk=>exact q
  |cont=>exact q
  |ret u=>exact q
 ·obtain⟨σ1,H1,s0,I0,hcx⟩:=q;obtain⟨e,C,H',rfl,XX,F,C',eC,hmt,hR⟩:=I0.flown hcx;cases eC;have hR:=hR e F.free
  obtain⟨T,a0,fl,nT,fT⟩:=ZK6 hst XX F;have hns:∀b∈[e,T],X.s₀.heap.get? b=none/\H' b=none/\(∀p∈X.pn++pins,p.1≠b):=λb hb=>by
   have key:∀b,s0.heap.get? b=none->H' b=none->X.s₀.heap.get? b=none/\H' b=none/\(∀p∈X.pn++pins,p.1≠b):=λb n0 f0=>⟨I0.was hex n0,f0,λp hp z=>by
    have:=(I0.pin p hp).1
    rw[z,n0]at this;cases this⟩
   rcases Ye.mp hb with rfl|hb
   ·exact key _ F.new F.free
   ·rw[Yy2.mp hb];exact key _ nT fT
  rw[hst]at fl;refine wpAny_looks_onW (by rw[XX.ok.frames,hst]) hfr fl λh₄ held₄ up₄=>?_;refine wpAny_landsW held₄ λh₅ fl₅ up₅'=>?_;have up₅:=up₄.trans up₅'
  have J₅:Inv X pins σ1 H' {s1 with heap:=h₅}:=XX.held (tk:=s1.toks) hns fl₅.1 up₅;obtain⟨ob,hob,hobc⟩:=fl₅.there;refine wpAny_handleBy_cons (codeAny_handlers_test<|Yy22 J₅.ok.kind hg (Calls.loadGlobal_global (by rw[J₅.ok.glob];exact J₅.mod.glob.keeps J₅.bk) hm ?_) hdb) (by intro q;cases q);have LT:PySem.W.Looks (model X.prog X.w) h₅ (typeOf<|.ref e) (.ref C):=by rw[<-hobc];exact(PySem.W.Looks.ld hob).andThen .now
  refine(PySem.W.exm_one J₅.kIn LT hmt).here ?_;refine codeAny_handlers_suite_as ?_;refine lands_againW fl₅ λh₆ fl₆ up₆=>?_;have J₆:Inv X pins σ1 H' {s1 with heap:=h₆}:=XX.held (tk:=s1.toks) hns fl₆.1 (up₅.trans up₆)
  obtain⟨oe,ws,hoe,hoec,hoed,hoe0⟩:=fl₆.first;have neL:e≠X.env.locals:=λz=>by
   obtain⟨m,⟨o',es,ep,ho',hd',_⟩,_⟩:=J₆.loc;rw[<-z]at ho';have hoe':h₆.get? e=some oe:=hoe
   have ho'':h₆.get? e=some o':=ho';rw[hoe']at ho'';cases ho'';rw[hoed]at hd';cases hd'
  have nfs:e∉X.fs:=λz=>by
   obtain⟨_,o',ho',hd⟩:=J₆.funs.mem z;have hoe':h₆.get? e=some oe:=hoe
   have ho'':h₆.get? e=some o':=ho';rw[hoe']at ho'';cases ho'';exact hd ws hoed
  refine Zq4 J₆ hN hi (.inl hl) (v:=.ref e) Z (λs7 J₇ hsb=>?_) (.inr hl);obtain⟨a,hsame,ha⟩:=hsb;have hea:e≠a:=by
   rcases ha with rfl|ha
   ·exact neL
   ·intro z;obtain⟨v,o',ho',hd'⟩:=J₆.cell _ _ ha;rw[<-z]at ho';have hoe':h₆.get? e=some oe:=hoe
    have ho'':h₆.get? e=some o':=ho';rw[hoe']at ho'';cases ho'';rw[hoed]at hd';cases hd'
  have hoe7:s7.heap.get? e=some oe:=(hsame.2 e hea).trans hoe;have JH:=J₇.inHan (oe:=oe) hoe7 F.free neL nfs (λv z=>by rw[hoed]at z;cases z)
  refine Yy07 (hs e C oe pins hoec [] s7 _ H' (D.less i) JH hR) (λf s8 q=>?_) λ_ _ z=>False.elim z;have hp:(X.env.scope.kind == .class||(X.env.scope.kind == .module&&X.env.locals != X.env.globals))=false:=by rw[XX.ok.kind];rfl
  have fin:∀{σ8:St}{H8:Hp},Inv (ZE12 X pins e oe) [] σ8 H8 s8->∀{Q:Flow->Shared->Prop},(∀s9,Inv X pins (σ8.set i none) H8 s9->Q f s9)->wpAny (model X.prog X.w) X.A (do bindName X.env n .none;unbindBehindTheSuite X.env n hpos) (λ_ s9=>Q f s9) X.xe s8:=λ{σ8 H8} J8 {Q} k=>by have J9:=J8.outHan I.ok.hd I.ok.frames;obtain⟨m,hn,_⟩:=id J9.loc;exact wpAny_nameGoes_keeps hl hn hp λh' v hn' hsm=>k _ (J9.gone hN hi hn hn' hsm)
  cases f with
  |next=>obtain⟨σ8,H8,J8,q⟩:=q;exact fin J8 λs9 J9=>⟨_,H8,J9,q⟩
  |brk=>obtain⟨σ8,H8,J8,q⟩:=q;exact fin J8 λs9 J9=>⟨_,H8,J9,q⟩
  |cont=>obtain⟨σ8,H8,J8,q⟩:=q;exact fin J8 λs9 J9=>⟨_,H8,J9,q⟩
  |ret u=>obtain⟨v,σ8,H8,J8,r,q⟩:=q;exact fin J8 λs9 J9=>⟨v,_,H8,J9,r,q⟩
end L2
namespace L2
open PySem PySem.Spec PyProof.Rows PySem.W PySem.Calls Builtin Builtin.ObjectAttr Builtin.Getset_descriptor
section
variable{prog:Program}{w:World}{A:Around}{E:Value->Shared->Prop}{K:PySem.W.Frag}{x C:Addr}{ox:Obj}
theorem ZM12 {R:Result->Shared->Prop} {s:Shared} {tp:Value} (X:K.In s.heap) (hx:s.heap.get? x=some ox) (hc:ox.cls=.ref C) (hm:mroIn K C (.type "object")=some true)
  (h:R (.ok<|.ret<|.ref C) s):codeAny (model prog w) A (.call (.builtin "getset_descriptor.__get__") ⟨[.builtin "object.__class__",.ref x,tp],[]⟩) R s:=by
 obtain⟨hh,g,dr,t,os⟩:=s;have L0:Looks (model prog w) hh (typeOf<|.ref x) (.ref C):=by rw[<-hc];exact(Looks.ld hx).andThen .now
 have L1:=looks_mroIn (M:=model prog w) X hm;refine Y2y KF.slot_gs.plain KF.entry_gs (KF.slot_gs.check _ _ _ _ _ _ _ _ KF.type_class (KF.args_gs _ _ _) ?_);unfold Builtin.«getset_descriptor.__get__» descrGet;rw[dga_obj];refine Yy1 (Yh ?_);unfold descrGetter descrCheckInstance descrNameAndClass isInstance;simp only[KF.owner_class]
 repeat lk
 refine⟨Y2b _ S,Y0Q KF.entry_class ?_⟩;unfold Builtin.«object.__class__» shownTypeOf
 repeat lk
 exact h
theorem ZT8{tk:Tok}{Q:Fin->Shared->Prop}(X:K.In s.heap)(hx:s.heap.get? x=some ox)(hc:ox.cls=.ref C)(c:XCls K C)(hq:Q (.done (.ret (.ref C))) s):
  wpAny (model prog w) A (Builtin.«object.__getattribute__» ⟨[.ref x,.str "__class__" tk],[]⟩) Q E s:=by
 obtain⟨hh,g,dr,t,os⟩:=s;have L0:Looks (model prog w) hh (typeOf<|.ref x) (.ref C):=by rw[<-hc];exact(Looks.ld hx).andThen .now
 have L1:=looks_findIn (M:=model prog w) X c.cl;have hT5:(⟨hh,g,dr,t,os⟩:Shared).TypeIs (.builtin "object.__class__") "getset_descriptor":=F.typeOf_object_class
 have f5:=F.typeOf_object_class;have f6:=F.slot_gs_get.lookup
 have f7:=F.slot_gs_set.lookup
 repeat (any_goals (first|assumption|(with_reducible refine L0.at ?_)|(with_reducible refine L1.at ?_)|wp_step))
 refine ZM12 (s:=⟨hh,g,dr,t,os⟩) X hx hc c.ob ?_;exact Yh hq
theorem ZU8{nameV:Value}{Q:Unit->Shared->Prop}{s:Shared}(X:K.In s.heap)(hx:s.heap.get? x=some ox)(hc:ox.cls=.ref C)(c:XCls K C)(hq:Q () s):
  wpAny M A (checkBuiltinCall "BaseException.__getattribute__" ⟨[.ref x,nameV],[]⟩) Q E s:=by
 obtain⟨hh,g,dr,t,os⟩:=s;have hk:builtinKind "BaseException.__getattribute__"=some .slot:=S
 have hsplit:splitId "BaseException.__getattribute__"=some ("BaseException","__getattribute__"):=S;have ha:=PySem.F.args_bexc_ga (.ref x) nameV
 have L0:Looks M hh (typeOf<|.ref x) (.ref C):=by rw[<-hc];exact(Looks.ld hx).andThen .now
 have L1:=looks_mroIn (M:=M) X c.bx;simp only[checkBuiltinCall,hk,hsplit];refine Yy1 ?_;refine Yy1 (L0.at<|L1.at ?_)
 repeat (any_goals (first|assumption|wp_step))
theorem ZF10{tk:Tok}{R:Result->Shared->Prop}{s:Shared}(X:K.In s.heap)(hx:s.heap.get? x=some ox)(hc:ox.cls=.ref C)(c:XCls K C)(hq:R (.ok (.ret (.ref C))) s):
  codeAny (model prog w) A (.call (.builtin "BaseException.__getattribute__") ⟨[.ref x,.str "__class__" tk],[]⟩) R s:=
 Y2y Y3h.ga.plain PySem.F.entry_bexc_ga (ZU8 X hx hc c<|ZT8 X hx hc c hq)
theorem ZT13{tk:Tok}{Q:Value->Shared->Prop}{s:Shared}(X:K.In s.heap)(hx:s.heap.get? x=some ox)(hc:ox.cls=.ref C)(c:XCls K C)(hq:Q (.ref C) s):
  wpAny (model prog w) A (getAttrBy (.ref x) (.str "__class__" tk) false) Q E s:=by
 obtain⟨hh,g,dr,t,os⟩:=s;have f3:=Y3h.ga.bind (.ref x)
 have hx2:(Value.builtin "BaseException.__getattribute__" == Value.builtin "object.__getattribute__")=false:=S;have hx1:(onTheHeap (Value.ref C)&&Value.builtin "BaseException.__getattribute__" == Value.builtin "object.__getattribute__")=false:=by rw[hx2];rfl
 have L0:Looks (model prog w) hh (typeOf<|.ref x) (.ref C):=by rw[<-hc];exact(Looks.ld hx).andThen .now
 have L1:=looks_findIn (M:=model prog w) X c.ga;have L2:=looks_findIn (M:=model prog w) X c.gh
 repeat (any_goals (first|assumption|(with_reducible refine L0.at ?_)|(with_reducible refine L1.at ?_)|(with_reducible refine L2.at ?_)|wp_step))
 refine ZF10 (s:=⟨hh,g,dr,t,os⟩) X hx hc c ?_
 repeat (any_goals (first|assumption|wp_step))
theorem ZG10{Q:Option Value->Shared->Prop}{s:Shared}(X:K.In s.heap)(hx:s.heap.get? x=some ox)(hc:ox.cls=.ref C)(c:XCls K C)(hq:Q (some (.ref C)) {s with toks:=s.toks+1}):
  wpAny (model prog w) A (getAttr? (.ref x) "__class__") Q E s:=by
 obtain⟨hh,g,dr,t,os⟩:=s;unfold getAttr? getAttrBy?
 repeat (any_goals (first|assumption|with_reducible refine ZT13 (s:=⟨hh,g,dr,_,os⟩) X hx hc c ?_|wp_step))
theorem ZW9(c:XCls K C)(hcl:(clsIn K C).isSome=true)(hc:ox.cls=.ref C):KitX K (.ref x) (.ref C) (λh=>h.get? x=some ox) where
 ty:=λ_ _ _ hx=>by rw[<-hc];exact(Looks.ld hx).andThen .now
 it:=λ_ _ X _=>by
  unfold clsIn at hcl;split at hcl
  ·rename_i c' d' cd' sl' ho;intro A' Q' E' s' k q;unfold isType loadHead;exact Yy1 (wpAny_loadPart (k _ _<|X _ _ ho)<|Yh q)
  ·cases hcl
 ne:=λh tp dd its n sl X htp=>by
  refine Yy16.mpr λq=>?_;have e:C=tp:=Value.ref.inj (Y1d.mp q)
  subst e;unfold clsIn at hcl;split at hcl
  ·rename_i c' d' cd' sl' ho
   have:=X _ _ ho
   rw[htp]at this;cases this
  ·cases hcl
 ca:=λ{_ _ _ _ _ s} X hx hq=>ZG10 X hx hc c hq
end
theorem XCls.isSome{K:PySem.W.Frag}{C:Addr}(c:XCls K C):(clsIn K C).isSome=true:=by
 have q:=c.ex;unfold excIn at q;unfold clsIn;split at q
 ·rename_i dd cd sl ho;rw[ho];rfl
 ·cases q
section
variable{X:Cx}
theorem ZC1 (K:PySem.W.Frag) {e C:Addr} {oe:Obj} (hp:(e,oe)∈X.pn) (hc:oe.cls=.ref C) (h:X.K=K:=by rfl):Zz12 X (.builtin "isinstance") (λxs H Q=>∃d u b,xs=[.ref e,d]/\(∀z,RelV d z->z=u)/\XCls K C/\kitOne K (.ref C) u=some b/\Q (.bl b) H):=by
 subst h;intro pins s σ H xs us Q I r h;obtain⟨d,u,b,rfl,hd,c,hk,q⟩:=h;obtain⟨u1,v,rfl,ru,rv⟩:=Zv5 r;obtain rfl:u1=Value.ref e:=ru;obtain rfl:=hd v rv;have hx:=(I.pin (e,oe)<|Yu _ hp).1
 exact kia_one (ZW9 c c.isSome hc) I.kIn hx hk (λz=>nomatch z) λtk=>⟨.bl b,H,I.tok tk,Z,q⟩
end
end L2
namespace L2
open PySem PySem.Spec PyProof.Rows
theorem ZE4{a:Int}(h1:-(10^70)<a)(h2:a<10^70):a.natAbs.log2<1920:=by
 have h:a.natAbs<10^70:=XT;by_cases h0:a.natAbs=0
 ·rw[h0];decide
 ·exact(Nat.log2_lt h0).mpr (Nat.lt_trans h J)
noncomputable def PJ(X:Cx)(es:List Expr)(t:St->Hp->(Hp->Prop)->Prop):Prop:=∀n pins s σ H acc Q,acc.length<=4000*n->n+es.length<=100->Inv X pins σ H s->t σ H Q->
 wpAny (model X.prog X.w) X.A (joinParts acc<|evalEach es X.env) (λv s'=>∃x tk H',v=Value.str x tk/\Inv X pins σ H' s'/\Q H') X.xe s
section
variable{X:Cx}{es:List Expr}{e:Expr}{te:TE}{t:St->Hp->(Hp->Prop)->Prop}{pos:Pos}
theorem Zm13:4000*100<=sizeLine:=by decide
theorem Zr9:PJ X [] (λ_ H Q=>Q H):=λn pins s σ H acc Q ha hn I h=>by refine joinParts_nil ⟨acc,_,H,Z,I.tok _,h⟩ (Yv ha<|Yv (Y2p _ ?_) Zm13);simpa using hn
theorem Zq9{x:Str}{j:Nat}{p:Pos}(hr:PJ X es t)(hz:x.length<=4000:=by decide +kernel):PJ X (.Constant (.str x) j p::es) t:=λn pins s σ H acc Q ha hn I h=>by
 have hl:(acc++x).length=acc.length+x.length:=strLen_append ..;rw[Yq]at hn;have hb:(acc++x).length<=4000*(n+1):=by rw[hl];lia
 refine joinParts_cons (Calls.Constant_str ⟨Yv hb<|Yv (Y2p _ O) Zm13,?_⟩);exact hr (n+1) pins _ σ H _ Q hb O (I.tok _) h
noncomputable def jInt(te:TE)(t:St->Hp->(Hp->Prop)->Prop):St->Hp->(Hp->Prop)->Prop:=λσ H Q=>te σ H λv H1=>∃a:Int,v=.int a/\-(10^70)<a/\a<10^70/\t σ H1 Q
theorem Zs9(he:PE X e te)(hr:PJ X es t):PJ X (.FormattedValue e (-1) none p::es) (jInt te t):=λn pins s σ H acc Q ha hn I h=>by
 rw[Yq]at hn;refine joinParts_cons (FormattedValue_plain<|thn (he pins s σ H _ I h) λu s1 hz0=>?_);obtain⟨v,H1,I1,r,a,ev,a1,a2,q⟩:=hz0;subst ev;obtain⟨tk,rfl⟩:=r;have hlog:=ZE4 a1 a2
 have hlen:(Str.ofString<|toString a).length<=4000:=by have z:=int_text_length_le (k:=1920) J hlog;rw[PySem.ofString_length];lia
 refine formatField_int_small hlog ?_;have hl:(acc++Str.ofString (toString a)).length=acc.length+(Str.ofString<|toString a).length:=strLen_append ..
 have hb:(acc++Str.ofString (toString a)).length<=4000*(n+1):=by rw[hl];lia
 refine⟨Yv hb<|Yv (Y2p _ O) Zm13,?_⟩;exact hr (n+1) pins _ σ H1 _ Q hb O (I1.tok _) q
noncomputable def ZX13(t:St->Hp->(Hp->Prop)->Prop):TE:=λσ H Q=>t σ H λH'=>∀x:Str,Q (.str x) H'
theorem Zz56{v₁ v₂:Expr}{rest:List Expr}(h:PJ X (v₁::v₂::rest) t)(hn:(v₁::v₂::rest).length<=100:=by decide):PE X (.JoinedStr (v₁::v₂::rest) pos) (ZX13 t):=λpins s σ H Q I hq=>
 JoinedStr_many (thn (h 0 pins s σ H Str.empty _ J (by simpa using hn) I hq) λu s1 ⟨x,tk,H1,eu,I1,q⟩=>by subst eu;exact⟨.str x,H1,I1,⟨tk,Z⟩,q x⟩)
end
theorem Zg13:Yz2 (CXW P w) X E0:=λ_ _ _ _ _ _ _ h=>by obtain⟨_,_,_,_,_,_,_,_,_,z⟩:=h;exact z.elim
end L2
namespace My
open PySem L2
theorem xI{α:Type}{p:α->Prop}{w:α}(h:p w):∃x,p x:=⟨w,h⟩
theorem Yz5(n k:Nat)(hn:n<=63)(hk:k<=63):-(2^62)<=(if (if (k:Int)<(n:Int) then (k:Int) else (n:Int))>1 then (if (k:Int)<(n:Int) then (k:Int) else (n:Int)) else 1)/\
  (if (if (k:Int)<(n:Int) then (k:Int) else (n:Int))>1 then (if (k:Int)<(n:Int) then (k:Int) else (n:Int)) else 1)<2^62:=by split<;>split<;>lia
theorem ZW8{k:Nat}(hn:ns.length<=63)(hk:k<=63):-(2^62)<=(if (if (k:Int)<((IL ns).length:Int) then (k:Int) else ((IL ns).length:Int))>1 then (if (k:Int)<((IL ns).length:Int) then (k:Int) else ((IL ns).length:Int)) else 1):=by rw[Zz8];exact(Yz5 _ _ hn hk).1
theorem ZX8{k:Nat}(hn:ns.length<=63)(hk:k<=63):(if (if (k:Int)<((IL ns).length:Int) then (k:Int) else ((IL ns).length:Int))>1 then (if (k:Int)<((IL ns).length:Int) then (k:Int) else ((IL ns).length:Int)) else 1)<2^62:=by rw[Zz8];exact(Yz5 _ _ hn hk).2
end My
namespace L2
open PySem PySem.Spec PyProof.Rows
theorem ZG1:∀{us:List Value}{ns:List Int},IntsAre us ns->Vals (ns.map V.int) us
 |[],[],_=>.nil
 |_::_,[],h=>by cases h
 |[],_::_,h=>by cases h
 |u::us,n::ns,h=>by
  cases h with
  |cons _ _ t=>exact .cons ⟨_,Z⟩ (ZG1 t)
section
variable{X:Cx}
theorem Zd4 (K:PySem.W.Frag) (hk:X.K=K:=by rfl):Zz12 X (.builtin "sorted") (λxs H Q=>∃p ns,xs=[.ref p]/\SqL K H p (ns.map V.int)/\ns.length<64/\
  ∀ms:List Int,ms.Perm ns->ms.Pairwise (·<=·)->∀l,H l=none->Q (.ref l) (upd H l<|.lst<|ms.map V.int)):=by
 subst hk;intro pins s σ H xs us Q I r h;obtain⟨p,ns,rfl,hq,hn,q⟩:=h;obtain⟨u,rfl,ru⟩:=Ze3 r;obtain rfl:u=Value.ref p:=ru;obtain⟨its,rv,pl,hz⟩:=I.list hq;have hi:=Zz41 rv
 have hl:its.length=ns.length:=by rw[<-rv.length,Yy9]
 refine sorted_ints pl.isList hi O λout ms h1 h2 h3=>?_;obtain⟨e,he⟩:=sortedAll_at s.heap its out;have hml:ms.length=ns.length:=h2.length_eq
 refine⟨.ref<|s.heap.objs.size+1,_,I.laid (t':=s.toks) (o:=.lst<|ms.map V.int) (λb o g=>sortedAll_old g) (Y0W _) ⟨?_,out.toList,e,ZG1 h1,?_⟩,Z,q ms h2 h3 _<|I.hok.fresh<|Y0W _⟩
 ·rw[Yy9,hml]
  have:sizeLine=16777216:=Y1N
  lia
 ·exact he
end
end L2
namespace My
open PySem L2
theorem isSet_iff:IsSet m ns↔(∀z∈ns,0<=z/\z<(m:Int))/\ns.Pairwise (·<·):=by
 constructor
 ·intro h;refine⟨h.all,?_⟩;rw[Y0M];intro i j hi hj hij
  induction j with
  |zero=>exact absurd hij (Yy00 i)
  |succ j ih=>
   have hj':j<ns.length:=XR;have key:=(h (j+1) ns[j+1]<|Yy0 hj).2.2 ns[j] O (by rw[Y2s];exact Yy0 hj')
   by_cases e:i=j
   ·subst e;exact key
   ·have:=ih hj' O
    lia
 ·rintro⟨ha,hp⟩ i z hz;obtain⟨hi,ei⟩:=Yy4.mp hz;have hm:=ha z (Yy8 hz)
  refine⟨hm.1,hm.2,λy h0 hy=>?_⟩;obtain⟨hi',ei'⟩:=Yy4.mp hy
  have:=Y0M.mp hp (i-1) i hi' hi O
  rwa[ei,ei']at this
theorem Zn6{ns:List Int}(h:ns.Pairwise (·<·)):ns.Nodup:=h.imp λhab e=>O
theorem IsSet.nodup(h:IsSet m ns):ns.Nodup:=Zn6 (isSet_iff.mp h).2
end My
namespace My
theorem Zi1{α:Type}{P:List α->Prop}(h0:P [])(h1:∀l x,P l->P (l++[x])):∀l,P l:=by
 intro l;rw[<-List.reverse_reverse l]
 induction l.reverse with
 |nil=>exact h0
 |cons x r ih=>
  rw[List.reverse_cons];exact h1 _ _ ih
inductive Conn (es:List (Nat×Nat)):Nat->Nat->Prop
 |refl (i:Nat):Conn es i i
 |edge {a b:Nat} (h:(a,b)∈es):Conn es a b
 |symm {i j:Nat}:Conn es i j->Conn es j i
 |trans {i j k:Nat}:Conn es i j->Conn es j k->Conn es i k
theorem Conn.mono(h:∀e∈es,e∈fs)(c:Conn es i j):Conn fs i j:=by
 induction c with
 |refl i=>exact .refl i
 |edge q=>exact .edge (h _ q)
 |symm _ ih=>exact .symm ih
 |trans _ _ i1 i2=>exact .trans i1 i2
theorem ZT1{n i:Nat}(h:i<n):mk ((List.range n).map λ(i:Nat)=>(i:Int)) i=(i:Int):=by rw[mk_map' h]
where
 mk_map' {n i:Nat} (h:i<n):mk ((List.range n).map λ(i:Nat)=>(i:Int)) i=(i:Int):=by simp[mk,Yy7,Yg,Y0G h]
noncomputable def InN(n:Nat)(es:List (Nat×Nat)):Prop:=∀e∈es,e.1<n/\e.2<n
theorem InN.snoc{e:Nat×Nat}(h:InN n (es++[e])):InN n es/\e.1<n/\e.2<n:=⟨λx hx=>h x<|Yu _ hx,h e B⟩
theorem ZQ9:∀es:List (Nat×Nat),InN n es->∀e∈es,mk (lms n es) e.1=mk (lms n es) e.2:=by
 refine Zi1 (λ_ e h=>by cases h) λes x ih hn e he=>?_;obtain⟨h1,h2,h3⟩:=hn.snoc;have hl:=Zy n es
 have hx:=hn e he;rw[Zd1];refine(Zp6 O O).mpr ?_;rcases Yj.mp he with q|q
 ·exact .inl (ih h1 e q)
 ·rw[Yy2.mp q];exact .inr ⟨.inl Z,.inr Z⟩
theorem ZR9:∀es:List (Nat×Nat),InN n es->∀i j,i<n->j<n->mk (lms n es) i=mk (lms n es) j->Conn es i j:=by
 refine Zi1 (λ_ i j hi hj h=>?_) λes x ih hn i j hi hj h=>?_
 ·have h:mk ((List.range n).map λ(i:Nat)=>(i:Int)) i=mk ((List.range n).map λ(i:Nat)=>(i:Int)) j:=h;rw[ZT1 hi,ZT1 hj]at h
  have:i=j:=O
  subst this;exact .refl i
 ·obtain⟨h1,h2,h3⟩:=hn.snoc;have hl:=Zy n es
  have up:∀{i j:Nat},Conn es i j->Conn (es++[x]) i j:=λc=>c.mono λe he=>Yu _ he;have ex:Conn (es++[x]) x.1 x.2:=.edge B
  rw[Zd1]at h;rcases(Zp6 O O).mp h with q|⟨q1,q2⟩
  ·exact up (ih h1 i j hi hj q)
  ·have ci:Conn (es++[x]) i x.1:=by
    rcases q1 with q|q
    ·exact up (ih h1 i _ hi h2 q)
    ·exact(up<|ih h1 i _ hi h3 q).trans ex.symm
   have cj:Conn (es++[x]) j x.1:=by
    rcases q2 with q|q
    ·exact up (ih h1 j _ hj h2 q)
    ·exact(up<|ih h1 j _ hj h3 q).trans ex.symm
   exact ci.trans cj.symm
theorem Zs10(hn:InN n es)(c:Conn es i j):i=j\/(i<n/\j<n/\mk (lms n es) i=mk (lms n es) j):=by
 induction c with
 |refl i=>exact .inl rfl
 |edge q=>exact .inr ⟨(hn _ q).1,(hn _ q).2,ZQ9 es hn _ q⟩
 |symm _ ih=>
  rcases ih with e|⟨a,b,c⟩
  ·exact .inl e.symm
  ·exact .inr ⟨b,a,c.symm⟩
 |trans _ _ i1 i2=>
  rcases i1 with e|⟨a,b,c⟩
  ·rwa[e]
  ·rcases i2 with e|⟨a',b',c'⟩
   ·rw[<-e];exact .inr ⟨a,b,c⟩
   ·exact .inr ⟨a,b',c.trans c'⟩
theorem Zz31(hn:InN n es)(hi:i<n)(hj:j<n):mk (lms n es) i=mk (lms n es) j↔Conn es i j:=by
 constructor
 ·exact ZR9 es hn i j hi hj
 ·intro c;rcases Zs10 hn c with e|⟨_,_,e⟩
  ·rw[e]
  ·exact e
theorem Zo3(hn:InN n es)(hi:i<n)(hj:j<n):mk (pms n es) i=mk (pms n es) j↔Conn es i j:=by
 rw[<-Zz31 hn hi hj];have s:=ZQ5 (n:=n) (es:=es) hn
 exact s.2 i j (by rwa[Zt]) (by rwa[Zt])
noncomputable def cnt(M:List Int):Nat:=(fstA M M.length).length
theorem ZM7(M:List Int):∃p,p<=i/\mk M p=mk M i/\fstB M p=true:=by
 induction i using Nat.strongRecOn with
 |ind i ih=>
  by_cases h:fstB M i=true
  ·exact⟨i,Yy6 _,Z,h⟩
  ·have:∃j,j<i/\mk M j=mk M i:=by
    by_cases q:∃j,j<i/\mk M j=mk M i
    ·exact q
    ·exact absurd (fstB_iff.mpr λj hj e=>q ⟨j,hj,e⟩) h
   obtain⟨j,hj,e⟩:=this;obtain⟨p,h1,h2,h3⟩:=ih j hj;exact⟨p,O,h2.trans e,h3⟩
theorem Zz17{p q:Nat->Bool}{x n:Nat}(hx:x<n)(hpx:p x=true)(h:∀y,y<n->q y=(p y && !decide (y=x))):((List.range n).filter q).length+1=((List.range n).filter p).length:=by
 induction n with
 |zero=>exact absurd hx (Yy00 x)
 |succ n ih=>
  rw[Y0q,Yy12,Yy12,Yy3,Yy3];by_cases e:x=n
  ·subst e;have e1:(List.range x).filter q=(List.range x).filter p:=List.filter_congr λy hy=>by have hy:=YE.mp hy;rw[h y O,show decide (y=x)=false from YR O];simp
   have e2:q x=false:=by rw[h x O];simp
   rw[e1];simp[Y0w,e2,hpx]
  ·have hq:q n=p n:=by rw[h n O,show decide (n=x)=false from YR λz=>e z.symm];simp
   have:=ih O λy hy=>h y O
   simp only[Y0w,List.filter_nil,hq];lia
theorem Zz03(hp:fstB M p=true)(hq:fstB M q=true)(e:mk M p=mk M q):p=q:=by
 rcases Nat.lt_trichotomy p q with h|h|h
 ·exact absurd e (fstB_iff.mp hq p h)
 ·exact h
 ·exact absurd e.symm (fstB_iff.mp hp q h)
theorem Zz33(ha:a<m.length)(hb:b<m.length)(hne:mk m a≠mk m b):cnt (lm m a b)+1=cnt m:=by
 obtain⟨A,hA1,hA2,hA3⟩:=ZM7 m (i:=a);obtain⟨XU,hB1,hB2,hB3⟩:=ZM7 m (i:=b);have hAB:A≠XU:=λe=>hne (by rw[<-hA2,<-hB2,e])
 unfold cnt fstA;rw[Zz52];refine Zz17 (x:=max A XU) XR ?_ λy hy=>?_
 ·rcases Nat.le_total A XU with h|h
  ·rwa[Nat.max_eq_right h]
  ·rwa[Nat.max_eq_left h]
 ·rw[Y0I,Y0P,fstB_iff,fstB_iff];have key:∀i,i<y->(mk (lm m a b) i=mk (lm m a b) y↔Mrg m a b i y):=λi hi=>Zp6 O hy
  have nmax:(!decide (y=max A XU))=true↔y≠max A XU:=B;rw[nmax];constructor
  ·intro q;refine⟨λi hi e=>q i hi<|(key i hi).mpr (.inl e),λe=>?_⟩;rcases Nat.lt_or_gt_of_ne hAB with h|h
   ·have ey:y=XU:=O;subst ey;exact q A h ((key A h).mpr (.inr ⟨.inl hA2,.inr hB2⟩))
   ·have ey:y=A:=XR;subst ey;exact q XU h ((key XU h).mpr (.inr ⟨.inr hB2,.inl hA2⟩))
  ·rintro⟨q1,q2⟩ i hi e;rcases(key i hi).mp e with e|⟨e1,e2⟩
   ·exact q1 i hi e
   ·have fy:fstB m y=true:=fstB_iff.mpr q1;rcases e2 with e2|e2
    ·have ey:y=A:=Zz03 fy hA3 (e2.trans hA2.symm);rcases e1 with e1|e1
     ·exact q1 i hi (e1.trans e2.symm)
     ·obtain⟨p,p1,p2,p3⟩:=ZM7 m (i:=i)
      have:p=XU:=Zz03 p3 hB3 (by rw[p2,e1,hB2])
      grind
    ·have ey:y=XU:=Zz03 fy hB3 (e2.trans hB2.symm);rcases e1 with e1|e1
     ·obtain⟨p,p1,p2,p3⟩:=ZM7 m (i:=i)
      have:p=A:=Zz03 p3 hA3 (by rw[p2,e1,hA2])
      grind
     ·exact q1 i hi (e1.trans e2.symm)
theorem Zz43(n:Nat):cnt ((List.range n).map λ(i:Nat)=>(i:Int))=n:=by
 unfold cnt fstA;rw[Yy9,YK];have e:(List.range n).filter (fstB<|(List.range n).map λ(i:Nat)=>(i:Int))=List.range n:=by
  refine Y1J.mpr λp hp=>fstB_iff.mpr λi hi e=>?_;have hp:=YE.mp hp
  rw[ZT1 O,ZT1 hp]at e;lia
 rw[e,YK]
theorem Zp12(hM:1<=M.length):cnt M=1↔∀i j,i<M.length->j<M.length->mk M i=mk M j:=by
 have e:cnt M=(grp M).length:=by unfold cnt grp;rw[Zy8,Yy9]
 rw[e];exact Zx8 hM
end My
namespace My
open PySem L2
theorem Zz113{i:Int}{n:Nat}(h0:0<=i)(h1:i<(n:Int)):seqIndex? i n=some i.toNat:=by have e:(if i<0 then i+(n:Int) else i)=i:=if_neg O;unfold seqIndex?;simp only[e];rw[if_pos (by simp;lia)]
noncomputable def Zo(n:Int)(ps:List (Int×Int))(ns:List Int):Prop:=IsSet ps.length ns/\(ns.length:Int)=n-1/\∀i j,i<n.toNat->j<n.toNat->Conn (Za ps ns) i j
theorem ZV(g:ZL n ps)(h:∀z∈ns,0<=z/\z<(ps.length:Int)):InN n.toNat (Za ps ns):=λe he=>by
 obtain⟨z,hz,rfl⟩:=Yt.mp he;obtain⟨z0,z1⟩:=h z hz;have hp:ps[z.toNat]?=some (ps[z.toNat]'(by lia)):=Yy0 _
 rw[ZR1 hp];obtain⟨b1,b2,b3,b4⟩:=g.2.2.2 _ (Yy8 hp);exact⟨O,O⟩
theorem ZG(h:∀z∈ns,z∈ms):∀e∈Za ps ns,e∈Za ps ms:=λe he=>by obtain⟨z,hz,rfl⟩:=Yt.mp he;exact Yt.mpr ⟨z,h z hz,Z⟩
theorem ZT3(h:InN n es):(∀i j,i<(lms n es).length->j<(lms n es).length->mk (lms n es) i=mk (lms n es) j)↔∀i j,i<n->j<n->Conn es i j:=by
 rw[Zy];constructor
 ·intro q i j hi hj;exact(Zz31 h hi hj).mp (q i j hi hj)
 ·intro q i j hi hj;exact(Zz31 h hi hj).mpr (q i j hi hj)
theorem Zy6(hn:1<=n)(h:InN n es):(grp (pms n es)).length=1↔∀i j,i<n->j<n->Conn es i j:=by rw[Zx8 (by rwa[Zt]),(ZQ5 h).one];exact ZT3 h
theorem Zt4(hn:1<=n)(h:InN n es):(L2.seen (lms n es)).length=1↔∀i j,i<n->j<n->Conn es i j:=by rw[Zd9 (by rwa[Zy])];exact ZT3 h
theorem ZB1(h:∀z,z∈ns↔z∈ms):Conn (Za ps ns) i j↔Conn (Za ps ms) i j:=
 ⟨λc=>c.mono<|ZG λz hz=>(h z).mp hz,λc=>c.mono<|ZG λz hz=>(h z).mpr hz⟩
section
variable{K:PySem.W.Frag}{a:Addr}{xs:List V}{g:TG}{tt:TT}{te:TE}{o:Nat}{fr:List Nat}{σ:St}{H:Hp}{Q:VK}
theorem Zm8(Pv:Nat->List V->Hp->Prop)(h0:Pv 0 [] H)(hz:xs.length<sizeLine)(hl:∀i ys H,i<=xs.length->Pv i ys H->SqL K H a xs/\ys.length<=i)
  (hs:∀(i:Nat) x ys H (p:Addr),H p=none->xs[i]?=some x->Pv i ys H->Zi4 Pv g tt te o fr σ i (.ref p) ys (upd H p<|.tup [.int i,x]))(hd:∀ys H,Pv xs.length ys H->∀p,H p=none->Q (.ref p) (upd H p<|.lst ys)):LcR (Ite K a) g tt te o fr σ H Q:=by
 refine⟨λi m ys H=>m=xs.length-i/\i<=xs.length/\Pv i ys H,⟨xs.length,B,Yr _,h0⟩,?_⟩;rintro i m ys H ⟨rfl,hi,p⟩;obtain⟨q,hy⟩:=hl i ys H hi p;by_cases hlt:i<xs.length
 ·refine .inr ⟨⟨xs,xs[i],q,by simp[hlt]⟩,O,λx H' zz=>?_⟩;obtain⟨T,y,hT,ex,eH,hyy⟩:=zz;subst ex eH;exact hs i y ys H T hT (hyy xs q) p (λj ys H=>∃m',m'<xs.length-i/\m'=xs.length-j/\j<=xs.length/\Pv j ys H) λys H p'=>⟨xs.length-(i+1),XR,Z,hlt,p'⟩
 ·have e:i=xs.length:=O;subst e;exact .inl ⟨⟨xs,q,Yy6 _⟩,O,hd ys H p⟩
end
noncomputable def Zz55(M:List Int)(ps:List (Int×Int))(i:Nat):List Int:=((List.range i).filter λk=>decide<|mk M (ps.getD k (0,0)).1.toNat≠mk M (ps.getD k (0,0)).2.toNat).map λ(k:Nat)=>(k:Int)
noncomputable def wo(ns:List Int)(z:Int):List Int:=ns.filter λy=>decide (y≠z)
theorem wo_mem{z y:Int}:y∈wo ns z↔y∈ns/\y≠z:=by unfold wo;rw[Yy];simp
noncomputable def Zz413(n:Int)(ps:List (Int×Int))(ns:List Int)(z:Int)(l:List Int):List Int:=l.filter λy=>decide (z∈Zz55 (lms n.toNat<|Za ps<|wo ns y) ps ps.length)
theorem Zy5{z:Int}(h0:0<=z)(h1:z<(ps.length:Int)):z∈Zz55 M ps ps.length↔mk M (ps.getD z.toNat (0,0)).1.toNat≠mk M (ps.getD z.toNat (0,0)).2.toNat:=by
 unfold Zz55;rw[Yt];constructor
 ·rintro⟨k,hk,rfl⟩
  have:=YO (Yy.mp hk).2
  rwa[YA]
 ·intro h;exact⟨z.toNat,Yy.mpr ⟨YE.mpr XR,YG h⟩,O⟩
theorem Zz95{a b:List Int}(h:a.Perm b)(h1:a.Pairwise (·<=·))(h2:b.Pairwise (·<=·)):a=b:=by
 induction a generalizing b with
 |nil=>exact(List.Perm.nil_eq h)
 |cons x a ih=>
  cases b with
  |nil=>exact absurd h.length_eq B
  |cons y b=>
   obtain⟨hx,ha⟩:=Y0s.mp h1;obtain⟨hy,hb⟩:=Y0s.mp h2;have e:x=y:=by
    have m1:y∈x::a:=h.mem_iff.mpr Yb;have m2:x∈y::b:=h.mem_iff.mp Yb
    rcases Ye.mp m1 with e1|e1
    ·exact e1.symm
    ·rcases Ye.mp m2 with e2|e2
     ·exact e2
     ·have:=hx y e1;have:=hy x e2;lia
   subst e;rw[ih (List.Perm.cons_inv h) ha hb]
end My
namespace L2
open PySem PySem.Spec PyProof.Rows
section
variable{X:Cx}
noncomputable def Zh14(K:PySem.W.Frag):R2:=λx y H Q=>∃a b xs ys,x=.ref a/\y=.ref b/\SqT K H a xs/\SqT K H b ys/\xs.length+ys.length<=sizeLine/\
 (xs=[]->Q (.ref b) H)/\(xs≠[]->ys=[]->Q (.ref a) H)/\(xs≠[]->ys≠[]->∀p,H p=none->Q (.ref p) (upd H p<|.tup<|xs++ys))
theorem Zq3(K:PySem.W.Frag)(hk:X.K=K:=by rfl):OpR X (binaryOp .Add) (Zh14 K):=by
 intro pins s σ H x y v u Q I rx ry h;obtain⟨a,b,xs,ys,e1,e2,ha,hb,hz,q0,q1,q2⟩:=id h;by_cases hx:xs=[]
 ·subst hk e1 e2;cases rx;cases ry;obtain⟨its,r1,p1,_⟩:=I.tuple ha;obtain⟨its2,r2,p2,_⟩:=I.tuple hb;have hi:its=[]:=r1.nil_iff.mpr hx
  obtain⟨⟨cls,dd,data,sl⟩,ho,hc,n,hd⟩:=id p1;obtain⟨⟨cls2,dd2,data2,sl2⟩,ho2,hc2,n2,hd2⟩:=id p2;simp only at hc hd hc2 hd2;subst hc hd hc2 hd2;exact Y3m ⟨_,ho,Z⟩ ⟨_,ho2,Z⟩ Y3k seq_tuple_add Yy26 Yy20 (Y1R _ _)
   (tuple_addW0 a b its.toArray its2.toArray n n2 dd dd2 sl sl2<|by simp[hi]) ⟨ho,ho2,⟨.ref b,H,I,Z,q0 hx⟩⟩
 ·exact ZC9 K hk pins s σ H x y v u Q I rx ry ⟨a,b,xs,ys,e1,e2,ha,hb,hx,hz,q1 hx,q2 hx⟩
end
end L2
namespace My
open PySem L2
theorem ZM13(h:mk m a=mk m b):lm m a b=m:=by unfold lm;rw[if_neg λz=>z h]
theorem Zz27(ha:a<m.length)(hb:b<m.length):cnt m<=cnt (lm m a b)+1:=by
 by_cases e:mk m a=mk m b
 ·rw[ZM13 e];lia
 ·have:=Zz33 ha hb e;lia
theorem ZM8:∀es:List (Nat×Nat),InN n es->n<=cnt (lms n es)+es.length:=by
 refine Zi1 (λ_=>?_) λes x ih hn=>?_
 ·have:cnt (lms n [])=n:=Zz43 n
  lia
 ·obtain⟨h1,h2,h3⟩:=hn.snoc;have hl:=Zy n es
  have:=Zz27 (m:=lms n es) (a:=x.1) (b:=x.2) O O
  have:=ih h1
  rw[Zd1,Yy3,Yq,Y1M];lia
theorem ZL8(h:1<=M.length):1<=cnt M:=by unfold cnt fstA;refine Y3o (a:=0) (Yy.mpr ⟨YE.mpr O,fstB_iff.mpr λi hi=>absurd hi<|Yy00 i⟩)
theorem Zm1(hn:1<=n)(h:InN n es):cnt (lms n es)=1↔∀i j,i<n->j<n->Conn es i j:=by rw[Zp12 (by rwa[Zy])];exact ZT3 h
theorem Zj4(hn:ts.Nodup)(ho:o∈ts):(wo ts o).length+1=ts.length:=by
 induction ts with
 |nil=>cases ho
 |cons x r ih=>
  obtain⟨h1,h2⟩:=Y0r.mp hn;unfold wo;rw[Y0w];by_cases e:x=o
  ·subst e;rw[if_neg B]
   have:r.filter (λy=>decide<|y≠x)=r:=Y1J.mpr λy hy=>YG λe=>h1 (e▸hy)
   rw[this];rfl
  ·rw[if_pos (YG e)]
   have:=ih h2 ((Ye.mp ho).resolve_left λz=>e z.symm)
   unfold wo at this;rw[Yq,Yq];lia
noncomputable def ZF(ps:List (Int×Int))(z:Int):Nat×Nat:=((ps.getD z.toNat (0,0)).1.toNat,(ps.getD z.toNat (0,0)).2.toNat)
theorem Za1(ps:List (Int×Int))(ns:List Int)(z:Int):Za ps (ns++[z])=Za ps ns++[ZF ps z]:=by unfold Za ZF;rw[Yz];rfl
theorem ZE1(g:ZL n ps)(z0:0<=z)(z1:z<(ps.length:Int)):(ZF ps z).1<n.toNat/\(ZF ps z).2<n.toNat:=by
 have:=ZV (ns:=[z]) g (λy hy=>by rw[Yy2.mp hy];exact⟨z0,z1⟩)
 exact this (ZF ps z) (by unfold Za ZF;simp)
theorem ZJ10(hT:Zo n ps ts):∀y∈wo ts o,0<=y/\y<(ps.length:Int):=λy hy=>hT.1.all y (wo_mem.mp hy).1
theorem exch(g:ZL n ps)(hT:Zo n ps ts)(ho:o∈ts)(z0:0<=z)(z1:z<(ps.length:Int)):
  (∀i j,i<n.toNat->j<n.toNat->Conn (Za ps<|wo ts o++[z]) i j)↔¬Conn (Za ps<|wo ts o) (ZF ps z).1 (ZF ps z).2:=by
 have hn:1<=n.toNat:=by have:=g.1;lia
 have hw:=Zj4 hT.1.nodup ho;have hl:(ts.length:Int)=n-1:=hT.2.1
 have i0:InN n.toNat (Za ps<|wo ts o):=ZV g (ZJ10 hT);have hz:=ZE1 g z0 z1
 have ob:=hT.1.all o ho;have hoe:=ZE1 g ob.1 ob.2
 have i1:InN n.toNat (Za ps (wo ts o)++[ZF ps z]):=λe he=>(Yj.mp he).elim (i0 e) λq=>by rwa[Yy2.mp q]
 have i2:InN n.toNat (Za ps (wo ts o)++[ZF ps o]):=λe he=>(Yj.mp he).elim (i0 e) λq=>by rwa[Yy2.mp q]
 have hL:=Zy n.toNat (Za ps<|wo ts o);have le:(Za ps<|wo ts o).length=(wo ts o).length:=by unfold Za;rw[Yy9]
 rw[Za1];constructor
 ·intro hc c;have h1:cnt (lms n.toNat<|Za ps (wo ts o)++[ZF ps z])=1:=(Zm1 hn i1).mpr hc
  rw[Zd1,ZM13 ((Zz31 i0 hz.1 hz.2).mpr c)]at h1
  have:=ZM8 _ i0
  lia
 ·intro hc;have h2:cnt (lms n.toNat<|Za ps (wo ts o)++[ZF ps o])=1:=by
   refine(Zm1 hn i2).mpr λi j hi hj=>?_;rw[<-Za1];refine(ZB1 λy=>?_).mp (hT.2.2 i j hi hj);rw[Yj,wo_mem,Yy2];constructor
   ·intro hy;by_cases e:y=o
    ·exact .inr e
    ·exact .inl ⟨hy,e⟩
   ·rintro(q|q)
    ·exact q.1
    ·rwa[q]
  rw[Zd1]at h2;have h3:=Zz27 (m:=lms n.toNat<|Za ps<|wo ts o) (a:=(ZF ps o).1) (b:=(ZF ps o).2) O O
  have h4:=Zz33 (m:=lms n.toNat<|Za ps<|wo ts o) (a:=(ZF ps z).1) (b:=(ZF ps z).2) O O λe=>hc ((Zz31 i0 hz.1 hz.2).mp e);have h5:=ZL8 (M:=lm (lms n.toNat<|Za ps<|wo ts o) (ZF ps z).1 (ZF ps z).2) (by rw[Zz52];lia)
  refine(Zm1 hn i1).mp ?_;rw[Zd1];lia
noncomputable def cutT(n:Int)(ps:List (Int×Int))(ts:List Int)(o:Int):List Int:=Zz55 (lms n.toNat<|Za ps<|wo ts o) ps ps.length
theorem Zf3{z:Int}(h:z∈Zz55 M ps i):0<=z/\z<(i:Int):=by
 unfold Zz55 at h;obtain⟨k,hk,rfl⟩:=Yt.mp h
 have:=YE.mp (Yy.mp hk).1
 lia
theorem Zl1(g:ZL n ps)(hT:Zo n ps ts)(z0:0<=z)(z1:z<(ps.length:Int)):z∈cutT n ps ts o↔¬Conn (Za ps (wo ts o)) (ZF ps z).1 (ZF ps z).2:=by have hz:=ZE1 g z0 z1;unfold cutT;rw[Zy5 z0 z1];exact not_congr (Zz31 (ZV g<|ZJ10 hT) hz.1 hz.2)
noncomputable def exg(n:Int)(ps:List (Int×Int))(ts:List Int)(o z:Int):Prop:=o∈ts/\z≠o/\z∈cutT n ps ts o
noncomputable instance (n:Int) (ps:List (Int×Int)) (ts:List Int) (o z:Int):Decidable (exg n ps ts o z):=by unfold exg;infer_instance
theorem ZC8(g:ZL n ps)(hT:Zo n ps ts):
  exg n ps ts o z↔o∈ts/\z∉ts/\0<=z/\z<(ps.length:Int)/\∀i j,i<n.toNat->j<n.toNat->Conn (Za ps<|wo ts o++[z]) i j:=by
 constructor
 ·rintro⟨h1,h2,h3⟩;obtain⟨z0,z1⟩:=Zf3 h3;have hc:=(Zl1 g hT z0 z1).mp h3
  refine⟨h1,λhz=>hc ?_,z0,z1,(exch g hT h1 z0 z1).mpr hc⟩;refine .edge ?_;exact Yt.mpr ⟨z,wo_mem.mpr ⟨hz,h2⟩,Z⟩
 ·rintro⟨h1,h2,z0,z1,hc⟩;exact⟨h1,λe=>h2<|e▸h1,(Zl1 g hT z0 z1).mpr ((exch g hT h1 z0 z1).mp hc)⟩
theorem PairsV.mut{l:Addr}{ys zs xs:List V}(hP:PairsV H xs ps)(hl:H l=some (.lst ys)):PairsV (upd H l (.lst zs)) xs ps:=by refine⟨hP.1,λj p e=>?_⟩;obtain⟨v,e1,tt,e2,e3⟩:=hP.2 j p e;exact⟨v,e1,tt,e2,by rwa[Zd (ZI9 e3 hl (λz=>nomatch z))]⟩
theorem Zz07{o y:Int}(g:ZL n ps)(hT:Zo n ps ts)(ho:o∈ts)(hy:y∈ts):y∈cutT n ps ts o↔y=o:=by
 have yb:=hT.1.all y hy;rw[Zl1 g hT yb.1 yb.2];constructor
 ·intro h;by_cases e:y=o
  ·exact e
  ·exact absurd (.edge<|Yt.mpr ⟨y,wo_mem.mpr ⟨hy,e⟩,Z⟩) h
 ·rintro rfl;refine(exch g hT hy yb.1 yb.2).mp λi j hi hj=>(ZB1 λz=>?_).mp (hT.2.2 i j hi hj);rw[Yj,wo_mem,Yy2];constructor
  ·intro hz;by_cases e:z=y
   ·exact .inr e
   ·exact .inl ⟨hz,e⟩
  ·rintro(q|q)
   ·exact q.1
   ·rwa[q]
theorem ringA_mem:y∈Zz413 n ps ts z l↔y∈l/\z∈cutT n ps ts y:=by unfold Zz413;rw[Yy,YT];exact Iff.rfl
theorem ZL6(g:ZL n ps)(hT:Zo n ps ts)(hx:exg n ps ts o z)(hpm:ms.Perm (wo ts o++[z]))(hpw:ms.Pairwise (·<=·)):Zo n ps ms:=by
 obtain⟨ho,hz,z0,z1,hc⟩:=(ZC8 g hT).mp hx;have nd:(wo ts o++[z]).Nodup:=Ze6 (hT.1.nodup.sublist List.filter_sublist) λh=>hz (wo_mem.mp h).1
 have ndm:ms.Nodup:=hpm.nodup_iff.mpr nd;have hl:=Zj4 hT.1.nodup ho
 have hl2:=hpm.length_eq;rw[Yy3,Yw]at hl2;refine⟨isSet_iff.mpr ⟨λy hy=>?_,(List.pairwise_and_iff.mpr ⟨hpw,ndm⟩).imp λ{x y} h=>by have:=h.1;have:=h.2;lia⟩,by rw[hl2,hl];exact hT.2.1,λi j hi hj=>(ZB1 λy=>hpm.mem_iff).mpr (hc i j hi hj)⟩;rcases Yj.mp (hpm.mem_iff.mp hy) with h|h
 ·exact hT.1.all y (wo_mem.mp h).1
 ·rw[Yy2.mp h];exact⟨z0,z1⟩
noncomputable def grd(n:Nat)(ps:List (Int×Int)):Nat->List Int
 |0=>[]
 |k+1=>if mk (lms n<|Za ps<|grd n ps k) (ZF ps (k:Int)).1=mk (lms n<|Za ps<|grd n ps k) (ZF ps (k:Int)).2 then grd n ps k else grd n ps k++[(k:Int)]
theorem ZU1(n:Nat)(ps:List (Int×Int))(k:Nat):grd n ps (k+1)=if mk (lms n (Za ps (grd n ps k))) (ZF ps (k:Int)).1=mk (lms n (Za ps (grd n ps k))) (ZF ps (k:Int)).2 then grd n ps k else grd n ps k++[(k:Int)]:=rfl
theorem Zj5:∀k,∀z∈grd n ps k,0<=z/\z<(k:Int)
 |0,z,h=>by cases h
 |k+1,z,h=>by
  rw[ZU1]at h;split at h
  ·have:=Zj5 k z h;lia
  ·rcases Yj.mp h with h|h
   ·have:=Zj5 k z h;lia
   ·rw[Yy2.mp h];lia
theorem ZK4:∀k,(grd n ps k).Pairwise (·<·)
 |0=>List.Pairwise.nil
 |k+1=>by
  rw[ZU1];split
  ·exact ZK4 k
  ·rw[Y0u];exact⟨ZK4 k,Y1l ..,λa ha b hb=>by rw[Yy2.mp hb];exact(Zj5 k a ha).2⟩
theorem ZA6(hk:k<=ps.length):IsSet ps.length (grd n ps k):=isSet_iff.mpr ⟨λz hz=>by have:=Zj5 k z hz;lia,ZK4 k⟩
theorem ZJ7(g:ZL n ps)(hk:k<=ps.length):InN n.toNat (Za ps (grd n.toNat ps k)):=ZV g (ZA6 hk).all
theorem Yz6:∀k,j<=k->∀z,z∈grd n ps j↔z∈grd n ps k/\z<(j:Int)
 |0,h,z=>by
  have:j=0:=O
  subst this;exact⟨λh=>(by cases h),λh=>h.1⟩
 |k+1,h,z=>by
  by_cases e:j=k+1
  ·subst e;exact⟨λh=>⟨h,(Zj5 _ z h).2⟩,λh=>h.1⟩
  ·have ih:=Yz6 (n:=n) (ps:=ps) (j:=j) k O z;rw[ZU1,ih];split
   ·exact Iff.rfl
   ·rw[Yj,Yy2];constructor
    ·rintro⟨h1,h2⟩;exact⟨.inl h1,h2⟩
    ·rintro⟨h1|h1,h2⟩
     ·exact⟨h1,h2⟩
     ·lia
theorem ZZ11(g:ZL n ps)(hk:k<=ps.length)(hj:j<k)(hn:(j:Int)∉grd n.toNat ps k):Conn (Za ps (grd n.toNat ps j)) (ZF ps (j:Int)).1 (ZF ps (j:Int)).2:=by
 have he:=ZE1 (z:=(j:Int)) g O O;have h1:(j:Int)∉grd n.toNat ps (j+1):=λh=>hn ((Yz6 k hj _).mp h).1
 rw[ZU1]at h1;split at h1
 ·rename_i h;exact(Zz31 (ZJ7 g O) he.1 he.2).mp h
 ·exact absurd (Yd _<|Yy2.mpr Z) h1
theorem ZJ4(g:ZL n ps):∀k,k<=ps.length->cnt (lms n.toNat (Za ps (grd n.toNat ps k)))+(grd n.toNat ps k).length=n.toNat
 |0,_=>Zz43 n.toNat
 |k+1,hk=>by
  have ih:=ZJ4 g k O;have he:=ZE1 (z:=(k:Int)) g O O
  have hl:=Zy n.toNat (Za ps<|grd n.toNat ps k);rw[ZU1];split
  ·exact ih
  ·rename_i h;rw[Za1,Zd1,Yy3,Yw]
   have:=Zz33 (m:=lms n.toNat<|Za ps<|grd n.toNat ps k) O O h
   grind
theorem ZD6(g:ZL n ps)(ht:∀z∈ts,0<=z/\z<(ps.length:Int))(c:Conn (Za ps ts) i j):Conn (Za ps (grd n.toNat ps ps.length)) i j:=by
 induction c with
 |refl i=>exact .refl i
 |symm _ ih=>exact .symm ih
 |trans _ _ i1 i2=>exact .trans i1 i2
 |@edge a b h=>
  obtain⟨z,hz,e⟩:=Yt.mp h;obtain⟨z0,z1⟩:=ht z hz;have ez:z=((z.toNat:Nat):Int):=O
  by_cases hm:z∈grd n.toNat ps ps.length
  ·exact .edge (Yt.mpr ⟨z,hm,e⟩)
  ·rw[ez]at hm;have c:=ZZ11 g (Yy6 _) O hm
   have c2:=c.mono (ZG λy hy=>((Yz6 ps.length O y).mp hy).1);rw[<-ez]at c2;have ea:a=(ZF ps z).1:=(YX Prod.fst e).symm
   have eb:b=(ZF ps z).2:=(YX Prod.snd e).symm;rwa[ea,eb]
theorem Zz610(g:ZL n ps)(hT:Zo n ps ts):Zo n ps (grd n.toNat ps ps.length):=by
 have hc:∀i j,i<n.toNat->j<n.toNat->Conn (Za ps<|grd n.toNat ps ps.length) i j:=λi j hi hj=>ZD6 g hT.1.all (hT.2.2 i j hi hj);have h1:=(Zm1 (by have:=g.1;lia)<|ZJ7 g<|Yy6 _).mpr hc
 have h2:=ZJ4 g ps.length (Yy6 _);exact⟨ZA6<|Yy6 _,by have:=g.1;grind,hc⟩
theorem ZC6(g:ZL n ps)(h:¬((grd n.toNat ps ps.length).length:Int)<n-1):Zo n ps (grd n.toNat ps ps.length):=by
 have h2:=ZJ4 g ps.length (Yy6 _);have h3:=ZL8 (M:=lms n.toNat<|Za ps<|grd n.toNat ps ps.length) (by rw[Zy];have:=g.1;grind)
 exact⟨ZA6<|Yy6 _,by have:=g.1;grind,(Zm1 (by have:=g.1;grind)<|ZJ7 g<|Yy6 _).mp O⟩
theorem Zu3:∀a:List Int,HT.lexLt a a=false
 |[]=>rfl
 |x::xs=>by rw[HT.lexLt_cons,if_pos Z];exact Zu3 xs
noncomputable def TupV(H:Hp)(v:V)(l:List Int):Prop:=∃a,v=.ref a/\H a=some (.tup<|IL l)
noncomputable def TupsV(H:Hp)(xs:List V)(L:List (List Int)):Prop:=xs.length=L.length/\∀(i:Nat)(l:List Int),L[i]?=some l->∃v,xs[i]?=some v/\TupV H v l
theorem TupsV.same(s:Same H H')(h:TupsV H xs L):TupsV H' xs L:=⟨h.1,λi l e=>by obtain⟨v,e1,a,e2,e3⟩:=h.2 i l e;exact⟨v,e1,a,e2,s _ _ e3⟩⟩
theorem TupsV.at(h:TupsV H xs L){i:Nat}{v:V}(e:xs[i]?=some v):∃l,L[i]?=some l/\TupV H v l:=by
 have hi:i<xs.length:=(Yy4.mp e).1;have hp:i<L.length:=by rwa[<-h.1]
 obtain⟨v',e1,q⟩:=h.2 i L[i] (Yy0 hp);rw[e]at e1;cases e1;exact⟨_,Yy0 hp,q⟩
theorem TupsV.nil:TupsV H [] []:=⟨Z,λi p e=>by simp at e⟩
theorem TupsV.app(h:TupsV H xs L)(h2:TupsV H ys M):TupsV H (xs++ys) (L++M):=by
 refine⟨by rw[Yy3,Yy3,h.1,h2.1],λi l e=>?_⟩;by_cases hi:i<L.length
 ·rw[Ys hi]at e;obtain⟨v,e1,q⟩:=h.2 i l e;exact⟨v,by rw[Ys (by rwa[h.1])];exact e1,q⟩
 ·rw[Yn O]at e;obtain⟨v,e1,q⟩:=h2.2 _ l e;exact⟨v,by rw[Yn (by rw[h.1];omega),h.1];exact e1,q⟩
theorem TupsV.one(q:TupV H v l):TupsV H [v] [l]:=⟨Z,λi m e=>by
 cases i with
 |zero=>have e:l=m:=(by simpa using e);exact⟨v,Z,e▸q⟩
 |succ i=>simp at e⟩
theorem TupsV.snoc(h:TupsV H xs L)(q:TupV H v l):TupsV H (xs++[v]) (L++[l]):=h.app (.one q)
theorem TupsV.mut{d:Addr}{ys zs xs:List V}(hP:TupsV H xs L)(hl:H d=some (.lst ys)):TupsV (upd H d (.lst zs)) xs L:=by refine⟨hP.1,λj p e=>?_⟩;obtain⟨v,e1,tt,e2,e3⟩:=hP.2 j p e;exact⟨v,e1,tt,e2,by rwa[Zd (ZI9 e3 hl (λz=>nomatch z))]⟩
noncomputable def nxt(s:List Int):Int:=match s.getLast? with|none=>0|some x=>x+1
noncomputable def ext1(m:Int)(s:List Int):List (List Int):=(List.range (m-nxt s).toNat).map λ(i:Nat)=>s++[nxt s+(i:Int)]
noncomputable def cmb(m:Int):Nat->List (List Int)
 |0=>[[]]
 |k+1=>(cmb m k).flatMap (ext1 m)
theorem ZD9(s:List Int)(x:Int):nxt (s++[x])=x+1:=by unfold nxt;rw[List.getLast?_append];rfl
theorem ext1_mem{s l:List Int}:l∈ext1 m s↔∃t,nxt s<=t/\t<m/\l=s++[t]:=by
 unfold ext1;rw[Yt];constructor
 ·rintro⟨i,hi,rfl⟩
  have:=YE.mp hi
  exact⟨_,O,XT,Z⟩
 ·rintro⟨t,h1,h2,rfl⟩;exact⟨(t-nxt s).toNat,YE.mpr O,by rw[show nxt s+(((t-nxt s).toNat:Nat):Int)=t by lia]⟩
theorem asc_snoc{t:Int}:IsSet m (s++[t])↔IsSet m s/\nxt s<=t/\0<=t/\t<(m:Int):=by
 rw[isSet_iff,isSet_iff,Y0u];have last:(∀a∈s,∀b∈[t],a<b)/\s.Pairwise (·<·)->nxt s<=t\/t<0:=by
  rintro⟨h,_⟩;unfold nxt;cases e:s.getLast? with
  |none=>by_cases h0:0<=t;exact .inl h0;exact .inr O
  |some x=>have:=h x (Y1a e) t B;exact .inl (by show x+1<=t;lia)
 constructor
 ·rintro⟨h1,h2,_,h3⟩;have ht:=h1 t B
  refine⟨⟨λz hz=>h1 z<|Yu _ hz,h2⟩,?_,ht⟩;rcases last ⟨h3,h2⟩ with h|h
  ·exact h
  ·omega
 ·rintro⟨⟨h1,h2⟩,h3,h4,h5⟩;refine⟨λz hz=>?_,h2,Y1l ..,λa ha b hb=>?_⟩
  ·rcases Yj.mp hz with h|h
   ·exact h1 z h
   ·rw[Yy2.mp h];exact⟨h4,h5⟩
  ·rw[Yy2.mp hb];have key:∀{s:List Int}{a:Int},s.Pairwise (·<·)->a∈s->a<nxt s:=by
    refine λ{s}=>Zi1 (P:=λs=>∀{a:Int},s.Pairwise (·<·)->a∈s->a<nxt s) (λ{a} _ h=>by cases h) (λl x ih {a} hp h=>?_) s;rw[ZD9];rw[Y0u]at hp;rcases Yj.mp h with h|h
    ·have:=hp.2.2 a h x B;lia
    ·rw[Yy2.mp h];lia
   have:=key h2 ha
   lia
theorem cmb_mem{m:Nat}:∀{k:Nat}{l:List Int},l∈cmb (m:Int) k↔l.length=k/\IsSet m l
 |0,l=>by
  show l∈[[]]↔_;rw[Yy2];constructor
  ·rintro rfl;exact⟨Z,λi z e=>by simp at e⟩
  ·rintro⟨h,_⟩;exact YH.mp h
 |k+1,l=>by
  show l∈(cmb (m:Int) k).flatMap (ext1 m)↔_;rw[List.mem_flatMap];constructor
  ·rintro⟨s,hs,hl⟩;obtain⟨t,h1,h2,rfl⟩:=ext1_mem.mp hl;obtain⟨e,hI⟩:=cmb_mem.mp hs;have n0:0<=nxt s:=by
    unfold nxt;cases q:s.getLast? with
    |none=>exact Y0B 0
    |some x=>have:=(hI.all x<|Y1a q).1;show 0<=x+1;lia
   exact⟨by rw[Yy3,e];rfl,asc_snoc.mpr ⟨hI,h1,O,h2⟩⟩
  ·rintro⟨e,hI⟩;have hne:l≠[]:=λz=>by rw[z]at e;simp at e
   obtain⟨s,t,rfl⟩:∃s t,l=s++[t]:=⟨l.dropLast,l.getLast hne,(Y2O hne).symm⟩;obtain⟨h1,h2,h3,h4⟩:=asc_snoc.mp hI;exact⟨s,cmb_mem.mpr ⟨by rw[Yy3]at e;simpa using e,h1⟩,ext1_mem.mpr ⟨t,h2,h4,Z⟩⟩
theorem Zf10(h:IsSet m s):(ext1 (m:Int) s).length<=m:=by
 unfold ext1;rw[Yy9,YK];have n0:0<=nxt s:=by
  unfold nxt;cases q:s.getLast? with
  |none=>exact Y0B 0
  |some x=>have:=(h.all x<|Y1a q).1;show 0<=x+1;lia
 omega
theorem Zz44:∀L:List (List Int),(∀s∈L,IsSet m s)->(L.flatMap (ext1 (m:Int))).length<=m*L.length
 |[],_=>Yr _
 |s::L,h=>by
  have:=Zz44 L λx hx=>h x (Yc _ hx)
  have:=Zf10 (h s Yb)
  rw[List.flatMap_cons,Yy3,Yq,Nat.mul_succ];lia
theorem ZN8{m:Nat}(hm:m<=9):∀k,(cmb (m:Int) k).length<=9^k
 |0=>Yy6 1
 |k+1=>by
  have h1:=Zz44 (m:=m) (cmb (m:Int) k) λs hs=>(cmb_mem.mp hs).2;have h2:=ZN8 hm k
  have h3:m*(cmb (m:Int) k).length<=9*9^k:=Yy11 hm h2;rw[Nat.pow_succ,Y2L];exact Yv h1 h3
theorem ZO4{α β:Type}{l:List α}{f:α->List β}{y:α}(h:l[i]?=some y):(l.take (i+1)).flatMap f=(l.take i).flatMap f++f y:=by
 rw[YD,h,List.flatMap_append];congr 1;show List.flatMap f [y]=_
 simp
theorem Yz3{α:Type}{l:List α}{f:α->Bool}{y:α}(h:l[i]?=some y):(l.take (i+1)).filter f=(l.take i).filter f++(if f y=true then [y] else []):=by
 rw[YD,h,Yy12];congr 1;by_cases e:f y=true
 ·rw[if_pos e];show List.filter _ [y]=_;rw[Y0w,if_pos e];rfl
 ·rw[if_neg e];show List.filter _ [y]=_;rw[Y0w,if_neg e];rfl
noncomputable def pmf(M:List Int)(es:List (Nat×Nat)):List Int:=es.foldl (λm e=>pm m e.1 e.2) M
theorem Zo9(M:List Int)(es:List (Nat×Nat))(e:Nat×Nat):pmf M (es++[e])=pm (pmf M es) e.1 e.2:=by unfold pmf;rw[Y1w];rfl
theorem ZZ5(M:List Int):∀es:List (Nat×Nat),(pmf M es).length=M.length:=by
 intro es;unfold pmf
 induction es generalizing M with
 |nil=>rfl
 |cons e l ih=>rw[Y2e,ih,ZM1]
theorem ZY6{i:Int}(h0:0<=i):cutV xs none (some i)=xs.take i.toNat:=by
 have e:HT.sIx xs.length xs.length (some i)=min i.toNat xs.length:=by show(if i<0 then (i+(xs.length:Int)).toNat else min i.toNat xs.length)=_;rw[if_neg O]
 unfold cutV;rw[e,HT.sIx_none,List.drop_zero,Y2J];by_cases h:i.toNat<=xs.length
 ·rw[Nat.min_eq_left h]
 ·rw[Nat.min_eq_right O,YL<|Yy6 _,YL XT]
noncomputable def rgL(m:Nat):List Int:=(List.range m).map λ(i:Nat)=>(i:Int)
theorem rgL_mem{z:Int}:z∈rgL m↔0<=z/\z<(m:Int):=by
 unfold rgL;rw[Yt];constructor
 ·rintro⟨i,hi,rfl⟩
  have:=YE.mp hi
  lia
 ·intro h;exact⟨z.toNat,YE.mpr O,O⟩
theorem ZS5(m:Nat):(rgL m).length=m:=by unfold rgL;simp
theorem ZT5(m:Nat):(rgL m).Pairwise (·<·):=by unfold rgL;rw[Y2A];exact Y1t.imp λh=>XT
theorem ZR5(m:Nat):IsSet m (rgL m):=isSet_iff.mpr ⟨λz hz=>rgL_mem.mp hz,ZT5 m⟩
theorem Zh9(m:Nat):rngI 0 (m:Int)=rgL m:=by unfold rngI rgL;rw[Y2P,YA];exact YN λi _=>O
noncomputable def Za7(n:Int)(ps:List (Int×Int)):Prop:=∀i j,i<n.toNat->j<n.toNat->Conn (Za ps<|rgL ps.length) i j
end My
namespace L2
open PySem PySem.Spec PyProof.Rows
section
variable{prog:Program}{w:World}{A:Around}{E:Value->Shared->Prop}{s:Shared}
theorem Zm5{r:Addr}{a b c:Int}{t u v:Tok}{n:Nat}{Q:List Value->Shared->Prop}(hh:A.handled=none)(hr:IsRange s.heap r a b c t u v)(hm:Builtin.Range.small a b c=true)(hn:Builtin.Range.rangeSize a b c=n)(hl:n<=2^24)
  (k:∀h' tk acc,(∀b o,s.heap.get? b=some o->h'.get? b=some o)->ItemsOf (λi v=>∃t,v=.int (a+i*c) t) acc n->Q acc.toList {s with heap:=h',toks:=tk}):wpAny (model prog w) A (collect<|.ref r) Q E s:=by
 have hL1:(s.heap.push<|seqObj "list" #[] 0).get? s.heap.objs.size=some (seqObj "list" #[] 0):=Yk _ rfl;unfold collect;refine Yy1 (wpAny_runValue<|Y0Q entry_proto_collect' ?_);show wpAny _ A.in1 (do again (.builtin "list.__iadd__" ⟨[<-newList [],.ref r],[]⟩)) _ _ s
 refine Yy1 (wpAny_newList<|Yh ⟨Y2b _ S,Y0Q entry_list_iadd' ?_⟩);show wpAny _ A.in1 (Builtin.List.listExtendWith (.ref s.heap.objs.size) (.ref r)<|.ref s.heap.objs.size) _ _ {s with heap:=s.heap.push (seqObj "list" #[] 0)}
 refine Yy07 (wpAny_extend_range (A:=A) (R:=λx s'=>∃h' tk acc c',x=.ok (.ret<|.ref s.heap.objs.size)/\s'={s with heap:=h',toks:=tk}/\(∀b o,s.heap.get? b=some o->h'.get? b=some o)/\
   h'.get? s.heap.objs.size=some {cls:=.type "list",dict:=none,data:=.seq acc c',slots:=#[]}/\ItemsOf (λi v=>∃t,v=.int (a+i*c) t) acc n)
  (s:={s with heap:=s.heap.push (seqObj "list" #[] 0)}) hh (Yy5 _ hr) hm hn hl _ _ 0 hL1 λh' tk acc c' k1 k2 k3=>⟨h',tk,acc,c',Z,Z,λb o e=>k1 b o (Ym<|Yi e)<|Yy5 _ e,k2,k3⟩) (λfin s' z=>?_) (λe s' z=>?_)
 ·cases fin with
  |done f=>
   obtain⟨h',tk,acc,c',e,rfl,k1,k2,k3⟩:=z;cases e;refine Yy1 (wpAny_load k2 ?_);exact Yh (k h' tk acc k1 k3)
  |again c'=>
   refine⟨z.1,Y1B z.2 λx s2 z=>?_⟩;obtain⟨h',tk,acc,c',rfl,rfl,k1,k2,k3⟩:=z;refine Yy1 (wpAny_load k2 ?_);exact Yh (k h' tk acc k1 k3)
 ·obtain⟨h',tk,acc,c',e,_⟩:=z;cases e
theorem Zr3{r:Addr}{a b c:Int}{t u v:Tok}{n:Nat}(hm:Builtin.Range.small a b c=true)(hn:Builtin.Range.rangeSize a b c=n)(hl:n<=2^24):
  Meets (Builtin.«tuple.__new__» ⟨[.type "tuple",.ref r],[]⟩) (λA R s=>A.handled=none/\IsRange s.heap r a b c t u v/\∀(h':Heap)(tk:Nat)(acc:Array Value),(∀b o,s.heap.get? b=some o->h'.get? b=some o)->ItemsOf (λi v=>∃t,v=.int (a+i*c) t) acc n->
   R (.ok<|.ret<|.ref h'.objs.size) {s with heap:=h'.push<|seqObj "tuple" acc 0,toks:=tk}):=
 .of_wp λprog w A R s h=>by
  obtain⟨hh,hr,h⟩:=h;have e1:=sub_tuple_self
  have e2:=init_tuple_lookup;have e3:=madeHere_tuple
  have hT:s.TypeIs (.ref r) "range":=⟨_,hr,Z⟩;have hh1:A.in1.handled=none:=hh
  wp_walk using wpAny_typeOf hT,Zm5 hh1 hr hm hn hl
  intro h' tk acc hk hacc;show wpAny _ _ (Builtin.Tuple.tupleExact acc.toList.toArray >>= ret) _ _ _
  unfold Builtin.Tuple.tupleExact;have e:acc.toList.toArray=acc:=B
  rw[e];refine Yy1 (Y0c ?_<|by show acc.size<=sizeLine;rwa[hacc.1,Y1N]);exact Yh ⟨_,Z,h h' tk acc hk hacc⟩
theorem Zu2{r:Addr}{a b c:Int}{t u v:Tok}{n:Nat}{Q:Value->Shared->Prop}(hh:A.handled=none)(hr:IsRange s.heap r a b c t u v)(hm:Builtin.Range.small a b c=true)(hn:Builtin.Range.rangeSize a b c=n)(hl:n<=2^24)
  (k:∀(h':Heap)(tk:Nat)(acc:Array Value),(∀b o,s.heap.get? b=some o->h'.get? b=some o)->ItemsOf (λi v=>∃t,v=.int (a+i*c) t) acc n->Q (.ref h'.objs.size) {s with heap:=h'.push<|seqObj "tuple" acc 0,toks:=tk}):wpAny (model prog w) A (call (.type "tuple") [.ref r]) Q E s:=
 callType_new F.called_tuple J (F.typeCall_tuple_1 _) (F.newCall_tuple_1 _) (λo=>F.args_object_init_2 o _) F.entry_tuple_new (Zr3 (t:=t) (u:=u) (v:=v) hm hn hl)
  ⟨hh,hr,λh' tk acc hk hacc=>⟨⟨_,Yk _ Z,Z⟩,k h' tk acc hk hacc⟩⟩
end
section
variable{X:Cx}
theorem Zz73 (hc:X.calm=true):Zz12 X (.type "tuple") (λxs H Q=>∃p lo hi,xs=[.ref p]/\H p=some (.rng lo hi)/\(-(2^62)<=lo/\lo<2^62/\-(2^62)<=hi/\hi<2^62)/\(hi-lo).toNat<=16777216/\
  ∀l,H l=none->Q (.ref l) (upd H l<|.tup<|(rngI lo hi).map V.int)):=by
 intro pins s σ H xs us Q I r h;obtain⟨p,lo,hi,rfl,hp,⟨b1,b2,b3,b4⟩,hz,q⟩:=h;obtain⟨u,rfl,ru⟩:=Ze3 r;obtain rfl:u=Value.ref p:=ru;obtain⟨t,u,v,e⟩:=(show ObjOk X.prog X.w H s.heap p (.rng lo hi) from I.hok p _ hp);have hn:Builtin.Range.rangeSize lo hi 1=(((hi-lo).toNat:Nat):Int):=by rw[rangeSize_one];split<;>grind
 refine Zu2 (I.ok.hd hc) (t:=t) (u:=u) (v:=v) e (small_one b1 b2 b3 b4) hn hz λh' tk acc hk ha=>?_;have hl:acc.toList.length=(hi-lo).toNat:=by rw[YI];exact ha.1
 have rv:Vals ((rngI lo hi).map V.int) acc.toList:=Zw5 (lo:=lo) hl λj w ew=>by obtain⟨t,e⟩:=ha.2 j w (by simpa using ew);exact⟨t,by rw[e,Y1p]⟩
 have I1:Inv X pins σ H {s with heap:=h',toks:=tk}:=I.kept (t':=tk) hk;have hz2:((rngI lo hi).map V.int).length<=sizeLine:=by
  rw[Yy9,ZB2]
  have:sizeLine=16777216:=Y1N
  lia
 have I2:Inv X pins σ (upd H h'.objs.size<|.tup<|(rngI lo hi).map V.int) {s with heap:=h'.push<|seqObj "tuple" acc.toList.toArray 0,toks:=tk}:=
  I1.laid (t':=tk) (λb o e=>Yy5 _ e) (Yy6 _) (show ObjOk X.prog X.w _ _ _ (.tup<|(rngI lo hi).map V.int) from⟨hz2,acc.toList,rv,IsTup.new _ _⟩)
 have ea:acc.toList.toArray=acc:=B;rw[ea]at I2;exact⟨.ref h'.objs.size,_,I2,Z,q _<|I1.hok.fresh<|Yy6 _⟩
end
end L2
namespace My
open PySem L2
noncomputable def gst(n:Nat)(ps:List (Int×Int))(G:List Int)(z:Int):List Int:=if mk (lms n<|Za ps G) (ZF ps z).1=mk (lms n<|Za ps G) (ZF ps z).2 then G else G++[z]
noncomputable def grw(n:Nat)(ps:List (Int×Int))(zs:List Int):List Int:=zs.foldl (gst n ps) []
theorem ZJ1(n:Nat)(ps:List (Int×Int))(zs:List Int)(z:Int):grw n ps (zs++[z])=gst n ps (grw n ps zs) z:=by unfold grw;rw[Y1w];rfl
theorem ZX11(n:Nat)(ps:List (Int×Int))(zs:List Int):∀ys,∃us,grw n ps (zs++ys)=grw n ps zs++us/\us.Sublist ys:=by
 refine Zi1 ⟨[],B⟩ λys y ih=>?_;obtain⟨us,e,s⟩:=ih;rw[<-Y0A,ZJ1,e];unfold gst;split
 ·exact⟨us,Z,s.trans<|List.sublist_append_left _ _⟩
 ·exact⟨us++[y],by rw[Y0A],s.append<|List.Sublist.refl _⟩
theorem Zv8(n:Nat)(ps:List (Int×Int))(zs:List Int):(grw n ps zs).Sublist zs:=by obtain⟨us,e,s⟩:=ZX11 n ps [] zs;rw[Y1L]at e;rwa[e]
theorem ZI4(n:Nat)(ps:List (Int×Int)):∀k,grw n ps ((List.range k).map λ(i:Nat)=>(i:Int))=grd n ps k
 |0=>rfl
 |k+1=>by rw[Y0q,Yz,Y1o,ZJ1,ZI4 n ps k,ZU1];rfl
theorem ZY11(h:∀z∈zs,0<=z/\z<(ps.length:Int)):∀z∈grw n ps zs,0<=z/\z<(ps.length:Int):=λz hz=>h z ((Zv8 n ps zs).subset hz)
theorem Zz410(g:ZL n ps)(h:∀z∈zs,0<=z/\z<(ps.length:Int)):InN n.toNat (Za ps (grw n.toNat ps zs)):=ZV g (ZY11 h)
theorem Zx6(g:ZL n ps):∀zs:List Int,(∀z∈zs,0<=z/\z<(ps.length:Int))->cnt (lms n.toNat (Za ps (grw n.toNat ps zs)))+(grw n.toNat ps zs).length=n.toNat:=by
 refine Zi1 (λ_=>Zz43 n.toNat) λzs z ih h=>?_;have h1:∀z∈zs,0<=z/\z<(ps.length:Int):=λy hy=>h y (Yu _ hy)
 have ih:=ih h1;obtain⟨z0,z1⟩:=h z (Yd _<|Yy2.mpr Z);have he:=ZE1 (z:=z) g z0 z1
 have hl:=Zy n.toNat (Za ps<|grw n.toNat ps zs);rw[ZJ1];unfold gst;split
 ·exact ih
 ·rename_i h;rw[Za1,Zd1,Yy3,Yw]
  have:=Zz33 (m:=lms n.toNat<|Za ps<|grw n.toNat ps zs) O O h
  grind
theorem Zw8(g:ZL n ps)(h:∀z∈zs,0<=z/\z<(ps.length:Int)):(grw n.toNat ps zs).length<=14:=by
 have:=Zx6 g zs h
 have:=g.2.1
 lia
theorem Zz510(g:ZL n ps):∀zs:List Int,(∀z∈zs,0<=z/\z<(ps.length:Int))->∀{i j:Nat},Conn (Za ps zs) i j->Conn (Za ps (grw n.toNat ps zs)) i j:=by
 refine Zi1 (λ_ _ _ c=>c) λzs z IH h i j c=>?_;have h1:∀z∈zs,0<=z/\z<(ps.length:Int):=λy hy=>h y (Yu _ hy)
 obtain⟨z0,z1⟩:=h z (Yd _<|Yy2.mpr Z);have he:=ZE1 (z:=z) g z0 z1
 have up:∀{a b:Nat},Conn (Za ps<|grw n.toNat ps zs) a b->Conn (Za ps<|grw n.toNat ps<|zs++[z]) a b:=λc=>by
  rw[ZJ1];unfold gst;split
  ·exact c
  ·exact c.mono (ZG λy hy=>Yu _ hy)
 have own:Conn (Za ps<|grw n.toNat ps<|zs++[z]) (ZF ps z).1 (ZF ps z).2:=by
  rw[ZJ1];unfold gst;split
  ·rename_i e;exact(Zz31 (Zz410 g h1) he.1 he.2).mp e
  ·rw[Za1];exact .edge (Yd _<|Yy2.mpr Z)
 induction c with
 |refl i=>exact .refl i
 |symm _ ih=>exact .symm ih
 |trans _ _ i1 i2=>exact .trans i1 i2
 |@edge a b e=>
  rw[Za1]at e;rcases Yj.mp e with e|e
  ·exact up (IH h1<|.edge e)
  ·have e:=Yy2.mp e;have ea:a=(ZF ps z).1:=YX Prod.fst e
   have eb:b=(ZF ps z).2:=YX Prod.snd e;rwa[ea,eb]
theorem ZB6(g:ZL n ps):Za7 n ps↔¬((grd n.toNat ps ps.length).length:Int)<n-1:=by
 constructor
 ·intro h;have hc:∀i j,i<n.toNat->j<n.toNat->Conn (Za ps<|grd n.toNat ps ps.length) i j:=λi j hi hj=>ZD6 g (λz hz=>rgL_mem.mp hz) (h i j hi hj)
  have h1:=(Zm1 (by have:=g.1;lia)<|ZJ7 g<|Yy6 _).mpr hc;have h2:=ZJ4 g ps.length (Yy6 _)
  have:=g.1
  grind
 ·intro h i j hi hj;exact((ZC6 g h).2.2 i j hi hj).mono (ZG λz hz=>rgL_mem.mpr (by have:=Zj5 ps.length z hz;lia))
end My
namespace PyProof.Rows
open PySem
noncomputable abbrev dK:Keyed:=(Value.none,Value.none)
section
variable{XY:KeyOrd}{key:Keyed->XY.α}{kd:SortKind}
noncomputable def RK(XY:KeyOrd)(key:Keyed->XY.α)(x y:Keyed):Prop:=XY.kle (key x) (key y)
noncomputable abbrev LoS:=Option (Array Keyed)×Array Keyed×Nat×Nat×Nat×Nat×Nat
noncomputable abbrev HiS:=Option (Array Keyed)×Nat×Nat×Array Keyed×Nat×Nat×Nat
noncomputable def offs:List (List Keyed)->Nat->List (Nat×Nat)
 |[],_=>[]
 |g::gs,o=>(o,g.length)::offs gs (o+g.length)
structure PI (XY:KeyOrd) (key:Keyed->XY.α) (kd:SortKind) (a₀:Array Keyed) (st:SortSt) (segs:List (List Keyed)) (rest:List Keyed):Prop where
 kind:kindOf st=kd
 fail:failedOf st=none
 perm:(arrOf st).Perm a₀
 arr:(arrOf st).toList=segs.flatten++rest
 srt:∀g∈segs,1<=g.length/\g.Pairwise (RK XY key)
 pend:(pendingOf st).toList.map (λp=>(p.1,p.2.1))=offs segs 0
end
end PyProof.Rows
namespace L2
open PySem PySem.Spec PyProof.Rows
section
noncomputable def sameBut(a:Addr)(h h':Heap):Prop:=∀b o,b≠a->h.get? b=some o->h'.get? b=some o
end
end L2
namespace My
open PySem L2
noncomputable abbrev lexS(a b:List Int):Prop:=HT.lexLt a b=true
theorem Zl8:∀p a b,HT.lexLt (p++a) (p++b)=HT.lexLt a b
 |[],a,b=>rfl
 |x::p,a,b=>by rw[Y1h,Y1h,HT.lexLt_cons,if_pos Z,Zl8 p]
theorem Zk8:∀{s t:List Int}(a b:List Int),s.length=t.length->HT.lexLt s t=true->HT.lexLt (s++a) (t++b)=true
 |[],[],a,b,_,h=>by cases h
 |[],_::_,a,b,e,_=>by simp at e
 |_::_,[],a,b,e,_=>by simp at e
 |x::s,y::t,a,b,e,h=>by
  rw[HT.lexLt_cons]at h;rw[Y1h,Y1h,HT.lexLt_cons];split
  ·rename_i q;rw[if_pos q]at h;exact Zk8 a b (by simpa using e) h
  ·rename_i q;rwa[if_neg q]at h
theorem ZG11(h:lexS a b):a≠b:=λe=>by subst e;have:=Zu3 a;rw[h]at this;cases this
theorem Zr6{a:List (List Int)}(h:a.Pairwise lexS):a.Nodup:=h.imp λh=>ZG11 h
theorem Za4(m:Int):∀k,∀l∈cmb m k,l.length=k
 |0,l,h=>by rw[Yy2.mp h];rfl
 |k+1,l,h=>by obtain⟨s,hs,hl⟩:=List.mem_flatMap.mp h;obtain⟨t,_,_,rfl⟩:=ext1_mem.mp hl;rw[Yy3,Za4 m k s hs];rfl
theorem Zz37(m:Int):∀k,(cmb m k).Pairwise lexS
 |0=>Y1l ..
 |k+1=>by
  show((cmb m k).flatMap (ext1 m)).Pairwise lexS;rw[List.pairwise_flatMap];refine⟨λs _=>?_,List.Pairwise.imp_of_mem (λ{s t} hs ht hst=>?_)<|Zz37 m k⟩
  ·unfold ext1;rw[Y2A];refine Y1t.imp λ{i j} hij=>?_;show HT.lexLt _ _=true
   rw[Zl8,HT.lexLt_cons,if_neg O];exact YG O
  ·intro x hx y hy;obtain⟨u,_,_,rfl⟩:=ext1_mem.mp hx;obtain⟨v,_,_,rfl⟩:=ext1_mem.mp hy;exact Zk8 _ _ (by rw[Za4 m k s hs,Za4 m k t ht]) hst
theorem ZE5{α:Type}[DecidableEq α]:∀{l m:List α},l.Nodup->(∀x∈l,x∈m)->l.length<=m.length
 |[],m,_,_=>Yr _
 |x::l,m,h,hs=>by
  obtain⟨h1,h2⟩:=Y0r.mp h;have hx:=hs x Yb
  have:=ZE5 (l:=l) (m:=m.erase x) h2 λy hy=>(List.mem_erase_of_ne λ(e:y=x)=>h1<|e▸hy).mpr (hs y<|Yc _ hy)
  rw[Y3d hx]at this
  have:=Y3o hx
  rw[Yq];grind
theorem Zv4(g:ZL n ps)(hT:Zo n ps T)(z0:0<=z)(z1:z<(ps.length:Int)):Conn (Za ps (Zz413 n ps T z T)) (ZF ps z).1 (ZF ps z).2:=by
 have he:=ZE1 (z:=z) g z0 z1;have key:∀D:List Int,(∀o∈D,o∈T/\z∉cutT n ps T o)->Conn (Za ps<|T.filter λy=>decide<|y∉D) (ZF ps z).1 (ZF ps z).2:=by
  intro D
  induction D with
  |nil=>
   intro _;have e:(T.filter λy=>decide<|y∉([]:List Int))=T:=Y1J.mpr λy _=>B
   rw[e];exact hT.2.2 _ _ he.1 he.2
  |cons o D ih=>
   intro hD;have c:=ih λy hy=>hD y (Yc _ hy)
   obtain⟨hoT,hoc⟩:=hD o Yb;by_cases hoD:o∈D
   ·refine c.mono (ZG λy hy=>?_);obtain⟨h1,h2⟩:=Yy.mp hy;have h2:=YO h2
    exact Yy.mpr ⟨h1,YG λh=>(Ye.mp h).elim (λe=>h2<|e▸hoD) h2⟩
   ·refine YS λhno=>?_;have hsub:∀y,y∈(T.filter λy=>decide<|y∉o::D)->y∈wo T o:=λy hy=>by
     obtain⟨h1,h2⟩:=Yy.mp hy;have h2:=YO h2
     exact wo_mem.mpr ⟨h1,λe=>h2<|by rw[e];exact Yb⟩
    have c2:Conn (Za ps<|(T.filter λy=>decide<|y∉o::D)++[o]) (ZF ps z).1 (ZF ps z).2:=(ZB1 λy=>by
     rw[Yj,Yy,Yy,Yy2];simp only[decide_eq_true_eq,Ye,not_or];constructor
     ·rintro⟨h1,h2⟩;by_cases e:y=o
      ·exact .inr e
      ·exact .inl ⟨h1,e,h2⟩
     ·rintro(⟨h1,_,h2⟩|e)
      ·exact⟨h1,h2⟩
      ·rw[e];exact⟨hoT,hoD⟩).mp c
    have hall:∀y∈(T.filter λy=>decide<|y∉o::D),0<=y/\y<(ps.length:Int):=λy hy=>hT.1.all y (Yy.mp hy).1;obtain⟨o0,o1⟩:=hT.1.all o hoT;have hin:InN n.toNat (Za ps<|T.filter λy=>decide<|y∉o::D):=ZV g hall
    have hin1:InN n.toNat (Za ps<|(T.filter λy=>decide<|y∉o::D)++[o]):=ZV g λy hy=>by
     rcases Yj.mp hy with h|h
     ·exact hall y h
     ·rw[Yy2.mp h];exact⟨o0,o1⟩
    have hoe:=ZE1 (z:=o) g o0 o1;have hl:=Zy n.toNat (Za ps<|T.filter λy=>decide<|y∉o::D)
    have own:¬Conn (Za ps<|wo T o) (ZF ps o).1 (ZF ps o).2:=(Zl1 g hT o0 o1).mp ((Zz07 g hT hoT hoT).mpr Z);have cw:Conn (Za ps<|wo T o) (ZF ps z).1 (ZF ps z).2:=YS λh=>hoc ((Zl1 g hT z0 z1).mpr h)
    have up:∀{i j:Nat},i<n.toNat->j<n.toNat->mk (lms n.toNat<|Za ps<|T.filter λy=>decide<|y∉o::D) i=mk (lms n.toNat<|Za ps<|T.filter λy=>decide<|y∉o::D) j->Conn (Za ps<|wo T o) i j:=λhi hj e=>((Zz31 hin hi hj).mp e).mono (ZG hsub);have m:=(Zz31 hin1 he.1 he.2).mpr c2
    rw[Za1,Zd1,Zp6 O O]at m;rcases m with m|⟨m1,m2⟩
    ·exact hno ((Zz31 hin he.1 he.2).mp m)
    ·rcases m1 with m1|m1<;>rcases m2 with m2|m2
     ·exact hno ((Zz31 hin he.1 he.2).mp (m1.trans m2.symm))
     ·exact own (((up he.1 hoe.1 m1).symm.trans cw).trans (up he.2 hoe.2 m2))
     ·exact own (((up he.2 hoe.1 m2).symm.trans cw.symm).trans (up he.1 hoe.2 m1))
     ·exact hno ((Zz31 hin he.1 he.2).mp (m1.trans m2.symm))
 have c:=key (T.filter λy=>decide<|z∉cutT n ps T y) λo ho=>by obtain⟨h1,h2⟩:=Yy.mp ho;exact⟨h1,YO h2⟩
 refine c.mono (ZG λy hy=>?_);obtain⟨h1,h2⟩:=Yy.mp hy;have h2:=YO h2
 exact ringA_mem.mpr ⟨h1,YS λh=>h2<|Yy.mpr ⟨h1,YG h⟩⟩
theorem ZS1{i:Int}(h0:0<=i):cutV xs (some i) none=xs.drop i.toNat:=by
 have e:HT.sIx xs.length 0 (some i)=min i.toNat xs.length:=by show(if i<0 then (i+(xs.length:Int)).toNat else min i.toNat xs.length)=_;rw[if_neg O]
 unfold cutV;rw[e,HT.sIx_none,YL (by rw[Y0k];exact Yy6 _)];by_cases h:i.toNat<=xs.length
 ·rw[Nat.min_eq_left h]
 ·rw[Nat.min_eq_right O,Y0H<|Yy6 _,Y0H XT]
noncomputable def cutz{α:Type}(l:List α)(z:Int):List α:=l.take z.toNat++l.drop (z.toNat+1)
theorem ZJ14{z:Int}(h0:0<=z):cutV xs none (some z)++cutV xs (some (z+1)) none=cutz xs z:=by rw[ZY6 h0,ZS1 O,show(z+1).toNat=z.toNat+1 by lia];rfl
theorem Zp10{α:Type}(l:List α)(z:Int):(cutz l z).length<=l.length:=by unfold cutz;rw[Yy3,Yp,Y0k];grind
noncomputable def dn(lo hi i:Int):Int:=if i=hi then lo else if i<hi then i else i-1
end My
namespace L2
open PySem PySem.Spec PyProof.Rows
theorem ZU3{N a b:St->Hp->Prop}{r:VK}{σ:St}{H:Hp}(h:N σ H):Ends.nx {nx:=N,rt:=r,bk:=a,ct:=b} σ H:=h
end L2
namespace My
theorem len1{α:Type}{l:List α}(h:l.length=1):∃a,l=[a]:=by
 cases l with
 |nil=>cases h
 |cons a l=>cases l with
  |nil=>exact⟨a,Z⟩
  |cons b l=>simp at h
theorem len2{α:Type}{l:List α}(h:l.length=2):∃a b,l=[a,b]:=by
 cases l with
 |nil=>cases h
 |cons a l=>
  obtain⟨b,rfl⟩:=len1 (Y1D h);exact⟨a,b,Z⟩
theorem len3{α:Type}{l:List α}(h:l.length=3):∃a b c,l=[a,b,c]:=by
 cases l with
 |nil=>cases h
 |cons a l=>
  obtain⟨b,c,rfl⟩:=len2 (Y1D h);exact⟨a,b,c,Z⟩
theorem len4{α:Type}{l:List α}(h:l.length=4):∃a b c d,l=[a,b,c,d]:=by
 cases l with
 |nil=>cases h
 |cons a l=>
  obtain⟨b,c,d,rfl⟩:=len3 (Y1D h);exact⟨a,b,c,d,Z⟩
end My
namespace My
open PySem L2
theorem Conn.lift(h:∀e∈es,Conn fs e.1 e.2)(c:Conn es i j):Conn fs i j:=by
 induction c with
 |refl i=>exact .refl i
 |edge e=>exact h _ e
 |symm _ ih=>exact ih.symm
 |trans _ _ ih1 ih2=>exact ih1.trans ih2
theorem Zz66(g:ZL n ps)(hT:Zo n ps T)(hW:Zo n ps W)(hz:z∈T)(hzW:z∉W):∃y,exg n ps T z y/\exg n ps W y z:=by
 obtain⟨z0,z1⟩:=hT.1.all z hz;refine YS λhno=>?_;refine(Zl1 g hT z0 z1).mp ((Zz07 g hT hz hz).mpr Z) ((Zv4 g hW z0 z1).lift λe he=>?_);unfold Za at he;obtain⟨y,hy,rfl⟩:=Yt.mp he;obtain⟨hyW,hyc⟩:=ringA_mem.mp hy;obtain⟨y0,y1⟩:=hW.1.all y hyW;have hyz:y≠z:=λe=>hzW (e▸hyW)
 have:=(Zl1 (o:=z) g hT y0 y1)
 exact YS λh=>hno ⟨y,⟨hz,hyz,this.mpr h⟩,⟨hyW,YU hyz,hyc⟩⟩
theorem ZP10(g:ZL n ps)(hD:IsSet ps.length D)(hc:∀i j,i<n.toNat->j<n.toNat->Conn (Za ps D) i j):∃T,Zo n ps T/\∀y∈T,y∈D:=by
 have hs:=Zv8 n.toNat ps D;have hall:=hD.all
 have hG:=Zz410 g hall;have hcc:∀i j,i<n.toNat->j<n.toNat->Conn (Za ps<|grw n.toNat ps D) i j:=λi j hi hj=>Zz510 g D hall (hc i j hi hj)
 have h1:=(Zm1 (by have:=g.1;lia) hG).mpr hcc;have h2:=Zx6 g D hall
 refine⟨grw n.toNat ps D,⟨isSet_iff.mpr ⟨λz hz=>hall z<|hs.subset hz,(isSet_iff.mp hD).2.sublist hs⟩,by have:=g.1;grind,hcc⟩,λy hy=>hs.subset hy⟩
theorem Zz58(l:List Int):∃m:List Int,m.Perm l/\m.Pairwise (·<=·):=by
 induction l with
 |nil=>exact⟨[],.refl _,.nil⟩
 |cons x l ih=>
  obtain⟨m,h1,h2⟩:=ih;have key:∀m:List Int,m.Pairwise (·<=·)->∃k:List Int,k.Perm (x::m)/\k.Pairwise (·<=·):=by
   intro m
   induction m with
   |nil=>intro _;exact⟨[x],.refl _,Y1l _ _⟩
   |cons y m ih2=>
    intro hp;obtain⟨hy,hm⟩:=Y0s.mp hp;by_cases hxy:x<=y
    ·refine⟨x::y::m,.refl _,Y0s.mpr ⟨λz hz=>?_,hp⟩⟩;rcases Ye.mp hz with e|e
     ·rwa[e]
     ·exact Y1W hxy (hy z e)
    ·obtain⟨k,k1,k2⟩:=ih2 hm;refine⟨y::k,(k1.cons y).trans (List.Perm.swap x y m),Y0s.mpr ⟨λz hz=>?_,k2⟩⟩;rcases Ye.mp (k1.mem_iff.mp hz) with e|e
     ·rw[e];lia
     ·exact hy z e
  obtain⟨k,k1,k2⟩:=key m h2;exact⟨k,k1.trans<|h1.cons x,k2⟩
theorem Zw6(g:ZL n ps)(hU:Zo n ps U):∀V:List Int,V.Nodup->(∀z∈V,z∈U)->grw n.toNat ps V=V:=by
 refine Zi1 (λ_ _=>rfl) λV z ih hn hs=>?_;have hn':=Yy15.mp hn
 have hV:∀y∈V,y∈U:=λy hy=>hs y (Yu _ hy);have hz:z∈U:=hs z (Yd _<|Yy2.mpr Z)
 have hzV:z∉V:=λh=>hn'.2.2 z h z (Yy2.mpr Z) rfl;obtain⟨z0,z1⟩:=hU.1.all z hz;have he:=ZE1 (z:=z) g z0 z1
 rw[ZJ1,ih hn'.1 hV];unfold gst;rw[if_neg];intro e;have c:=(Zz31 (ZV g λy hy=>hU.1.all y<|hV y hy) he.1 he.2).mp e
 exact(Zl1 g hU z0 z1).mp ((Zz07 g hU hz hz).mpr Z) (c.mono<|ZG λy hy=>wo_mem.mpr ⟨hV y hy,λe'=>hzV<|by rwa[<-e']⟩)
noncomputable def Fr(n:Nat)(ps:List (Int×Int))(l:List Int):Bool:=decide (grw n ps l=l)
noncomputable def frs(n:Nat)(ps:List (Int×Int))(k:Nat):List (List Int):=(cmb (ps.length:Int) k).filter (Fr n ps)
theorem Za10(g:ZL n ps):l∈frs n.toNat ps (n-1).toNat↔Zo n ps l:=by
 unfold frs;rw[Yy,cmb_mem];have g1:=g.1
 constructor
 ·rintro⟨⟨h1,h2⟩,h3⟩;have e:grw n.toNat ps l=l:=YO h3
  have c:=Zx6 g l h2.all;rw[e]at c;exact⟨h2,O,(Zm1 XR<|ZV g h2.all).mp XR⟩
 ·intro h;exact⟨⟨by have:=h.2.1;lia,h.1⟩,YG<|Zw6 g h l h.1.nodup λz hz=>hz⟩
theorem srt_strict{a:List Int}(h:a.Pairwise (·<=·))(hn:a.Nodup):a.Pairwise (·<·):=(h.and hn).imp λh=>by have:=h.1;have:=h.2;lia
theorem Zz08{p r:List Int}{x:Int}(h:(p++x::r).Pairwise (·<·)):(∀z∈p,z<x)/\∀z∈x::r,x<=z:=by
 have a:=Y0u.mp h;refine⟨λz hz=>a.2.2 z hz x Yb,λz hz=>?_⟩;rcases Ye.mp hz with h|h
 ·rw[h];exact Y0B _
 ·exact Y2S ((Y0s.mp a.2.1).1 z h)
end My
namespace L2
open PySem PySem.Spec PyProof.Rows
noncomputable def Zi14(K:PySem.W.Frag):R2:=λx y H Q=>∃l b xs zs,x=.ref l/\y=.ref b/\SqL K H l xs/\SqL K H b zs/\xs.length+zs.length<=sizeLine/\∀p,H p=none->Q (.ref p) (upd H p<|.lst<|xs++zs)
section
variable{X:Cx}
theorem ZE2(K:PySem.W.Frag)(hk:X.K=K:=by rfl):OpR X (binaryOp .Add) (Zi14 K):=by
 subst hk;intro pins s σ H x y v u Q I rx ry h;obtain⟨l,b,xs,zs,rfl,rfl,hH,hB,hz,q⟩:=h;cases rx;cases ry;obtain⟨its,r,p,_⟩:=I.list hH;obtain⟨its2,r2,p2,_⟩:=I.list hB;have l1:=r.length
 have l2:=r2.length;obtain⟨⟨cls,dd,data,sl⟩,ho,hc,n,hd⟩:=id p.isList;obtain⟨⟨cls2,dd2,data2,sl2⟩,ho2,hc2,n2,hd2⟩:=id p2.isList;simp only at hc hd hc2 hd2;subst hc hd hc2 hd2;have e:its.toArray++its2.toArray=(its++its2).toArray:=B
 refine Y3m ⟨_,ho,Z⟩ ⟨_,ho2,Z⟩ noFill_list_add seq_list_add PySem.F.slot_list_add PySem.F.entry_list_add (PySem.F.args_list_add_2 _ _) (list_addW l b its.toArray its2.toArray n n2 dd dd2 sl sl2<|by rw[Ya,Ya];grind) ⟨ho,ho2,?_⟩;rw[e];exact⟨.ref _,_,I.lnew (t':=s.toks) (r.append r2) (by rw[Yy3];lia),Z,q _ I.fresh⟩
end
end L2
namespace My
open PySem L2
noncomputable def TC(n:Int)(ps:List (Int×Int))(c:Nat):Prop:=∃L:List (List Int),L.Nodup/\(∀l,l∈L↔Zo n ps l)/\L.length=c
theorem TC.uniq(h1:TC n ps c)(h2:TC n ps d):c=d:=by obtain⟨L,a1,a2,rfl⟩:=h1;obtain⟨M,b1,b2,rfl⟩:=h2;exact((Yy30 a1 b1).mpr λl=>by rw[a2,b2]).length_eq
theorem set_snoc:IsSet (m+1) (T++[(m:Int)])↔IsSet m T:=by
 constructor
 ·intro h;have a:=isSet_iff.mp h
  have b:=Y0u.mp a.2;refine isSet_iff.mpr ⟨λz hz=>?_,b.1⟩;have c:=a.1 z (Yu _ hz)
  have d:=b.2.2 z hz m (Yy2.mpr Z);omega
 ·exact λh=>h.snoc
theorem ZP5(h:IsSet (m+1) T):IsSet m T\/∃T',T=T'++[(m:Int)]/\IsSet m T':=by
 have a:=isSet_iff.mp h;by_cases hm:(m:Int)∈T
 ·obtain⟨p,r,e⟩:=List.append_of_mem hm;have b:=Zz08 (e▸a.2)
  cases r with
  |nil=>exact .inr ⟨p,e,set_snoc.mp<|e▸h⟩
  |cons y r=>
   have h1:=a.1 y (by rw[e];simp);have h2:=(Y0s.mp (Y0u.mp<|e▸a.2).2.1).1 y Yb
   omega
 ·refine .inl (isSet_iff.mpr ⟨λz hz=>?_,a.2⟩);have h1:=a.1 z hz
  have h2:z≠(m:Int):=λe=>hm (e▸hz);lia
theorem ZV4{es:List (Nat×Nat)}{a b i j:Nat}(c:Conn (es++[(a,b)]) i j):Conn (es++[(b,a)]) i j:=c.lift λe he=>by
 rcases Yj.mp he with q|q
 ·exact .edge (Yu _ q)
 ·rw[Yy2.mp q];exact .symm (.edge B)
theorem Bears.app{α:Type}[DecidableEq α]{R:V->α->Prop}{xs ys:List V}{l m:List α}(h:Bears R xs l)(h2:Bears R ys m):Bears R (xs++ys) (l++m):=by
 refine⟨by rw[Yy3,Yy3,h.1,h2.1],λi a e=>?_⟩;have hl:=h.1
 by_cases c:i<l.length
 ·rw[Ys c]at e;obtain⟨x,e1,r⟩:=h.2 i a e;exact⟨x,by rw[Ys O];exact e1,r⟩
 ·rw[Yn O]at e;obtain⟨x,e1,r⟩:=h2.2 _ a e;exact⟨x,by rw[Yn O,hl];exact e1,r⟩
theorem PairsV.set(h:PairsV H xs ps)(i:Nat)(q:PairV H v p):PairsV H (xs.set i v) (ps.set i p):=by
 refine⟨by rw[Y0i,Y0i];exact h.1,λj x e=>?_⟩;have hl:=h.1
 by_cases c:i=j
 ·subst c;rw[Y0l]at e;rw[if_pos Z]at e;by_cases hlt:i<ps.length
  ·rw[if_pos hlt]at e;obtain rfl:=Yl e;exact⟨v,by rw[Y0l,if_pos Z,if_pos O],q⟩
  ·rw[if_neg hlt]at e;cases e
 ·rw[Y0l,if_neg c]at e;obtain⟨w,e1,r⟩:=h.2 j x e;exact⟨w,by rw[Y0l,if_neg c];exact e1,r⟩
end My
namespace L2
open PySem PySem.Spec PyProof.Rows
noncomputable def Itz(K:PySem.W.Frag)(a b:Addr):It:=
 ⟨λi H=>∃xs ys x y,SqL K H a xs/\SqL K H b ys/\xs[i]?=some x/\ys[i]?=some y,λi H v H'=>∃T x y,H T=none/\v=.ref T/\H'=upd H T (.tup [x,y])/\(∀xs,SqL K H a xs->xs[i]?=some x)/\∀ys,SqL K H b ys->ys[i]?=some y,
  λi H=>∃xs ys,SqL K H a xs/\SqL K H b ys/\(xs.length<=i\/ys.length<=i)⟩
theorem ZA5{P:Program}{w:World}{K:PySem.W.Frag}{elts:List Expr}{x1:Nat}{pos:Pos}(a b z TI TO i1 i2:Addr)(D:ZipApart z TI TO i1 i2 a b):
  Turn P w K (.Tuple elts x1 pos) (Itz K a b) [z,TI,TO,i1,i2] z (λi h=>IsZip h z TI TO .none/\IsPair h TI (.ref i1) (.ref i2)/\(∃c d,IsPair h TO c d)/\h.IsListIter i1 a i/\h.IsListIter i2 b i) where
 mem:=B
 obj:=λi h st c hc=>by
  obtain⟨hz,hTI,⟨u,v,hTO⟩,⟨o1,e1,_,d1⟩,⟨o2,e2,_,d2⟩⟩:=st;have hc':c=z\/c=TI\/c=TO\/c=i1\/c=i2:=by simpa using hc
  rcases hc' with rfl|rfl|rfl|rfl|rfl
  ·exact⟨_,hz,λv q=>by have q':Data.fields _=Data.cell v:=q;cases q'⟩
  ·exact⟨_,hTI,λv q=>by have q':Data.seq _ _=Data.cell v:=q;cases q'⟩
  ·exact⟨_,hTO,λv q=>by have q':Data.seq _ _=Data.cell v:=q;cases q'⟩
  ·exact⟨o1,e1,λv q=>by rw[d1]at q;cases q⟩
  ·exact⟨o2,e2,λv q=>by rw[d2]at q;cases q⟩
 keep:=λi h h' st k=>by obtain⟨hz,hTI,⟨u,v,hTO⟩,h1,h2⟩:=st;exact⟨k z B _ hz,k TI B _ hTI,⟨u,v,k TO B _ hTO⟩,h1.at λo e=>k i1 B o e,h2.at λo e=>k i2 B o e⟩
 item:=by
  intro X hP hw hK hc i pins s σ H E I hf st hg;subst hP hw hK;obtain⟨xs,ys,x,y,hq,hq2,hx,hy⟩:=hg;obtain⟨hz,hTI,⟨u0,v0,hTO⟩,h1,h2⟩:=st;obtain⟨its,rv,p,_⟩:=I.list hq;obtain⟨u,hu,ru⟩:=rv.get hx;obtain⟨its2,rv2,p2,_⟩:=I.list hq2;obtain⟨v,hv,rv'⟩:=rv2.get hy;have fz:=hf z B
  have fTO:=hf TO B;have fi1:=hf i1 B
  have fi2:=hf i2 B;have hT0:H s.heap.objs.size=none:=I.hok.fresh (Yy6 _)
  refine wpAny_pyNext_zip_item D hz hTI hTO h1 h2 p.isList p2.isList (x:=u) (y:=v) (by simpa using hu) (by simpa using hv) λh' a1 a2 a3 a4 a5 hsz hk=>?_;have ltT:∀b ob,s.heap.get? b=some ob->b≠s.heap.objs.size:=λb ob z=>Ym (Yi z)
  have ltH:∀b ob,H b=some ob->b≠s.heap.objs.size:=λb ob z=>Ym (I.hok.lt z);have nof:∀c ob,H c=some ob->c≠z/\c≠TO/\c≠i1/\c≠i2:=λc ob q=>⟨λe=>(by rw[e,fz.1]at q;cases q),λe=>(by rw[e,fTO.1]at q;cases q),λe=>(by rw[e,fi1.1]at q;cases q),λe=>(by rw[e,fi2.1]at q;cases q)⟩
  have hkc:∀c o,c∉[z,TO,i1,i2]->s.heap.get? c=some o->h'.get? c=some o:=λc o hcx q=>hk c o (λe=>hcx<|by simp[e]) (λe=>hcx<|by simp[e]) (λe=>hcx<|by simp[e]) (λe=>hcx<|by simp[e]) q;have I1:Inv X pins σ (upd H s.heap.objs.size<|.tup [x,y]) {s with heap:=h'}:=by
   refine I.step (g':=s.gens) (d':=s.drawn) (t':=s.toks) (ch:=[z,TO,i1,i2]) (λc hb=>?_) (λc o _ _ hcx q _=>hkc c o hcx q) (λc o _ _ hcx q _=>⟨o.slots,hkc c o hcx q⟩)
    (λc o _ q n=>by rwa[Zd (ltT c o q)]) (λc o hcx q=>⟨o,hkc c o hcx q⟩) (λc ys q=>by rwa[Zd (ltH c _ q)]) (λc o v q=>by rwa[Zd (ltH c _ q)])
    (λc ps q=>⟨#[],by rw[Zd (ltH c _ q),q];simp⟩) (λm hm=>?_) (λc v' q=>?_) I.bare
   ·have hc':c=z\/c=TO\/c=i1\/c=i2:=by simpa using hb
    rcases hc' with rfl|rfl|rfl|rfl
    ·exact⟨fz.2.2.2.1,fz.2.1,fz.2.2.2.2.1,fz.2.2.2.2.2⟩
    ·exact⟨fTO.2.2.2.1,fTO.2.1,fTO.2.2.2.2.1,fTO.2.2.2.2.2⟩
    ·exact⟨fi1.2.2.2.1,fi1.2.1,fi1.2.2.2.2.1,fi1.2.2.2.2.2⟩
    ·exact⟨fi2.2.2.2.1,fi2.2.1,fi2.2.2.2.2.1,fi2.2.2.2.2.2⟩
   ·obtain⟨o,es,ep,ho',r⟩:=hm;exact⟨o,es,ep,hk _ o (YU fz.2.1) (YU fTO.2.1) (YU fi1.2.1) (YU fi2.2.1) ho',r⟩
   ·by_cases hb:c=s.heap.objs.size
    ·subst hb;rw[Zz1]at q;cases q;exact⟨by show 2<=sizeLine;decide,[u,v],.cons ru<|.cons rv' .nil,⟨_,a5,Z,_,Z⟩⟩
    ·rw[Zd hb]at q;refine(I.hok c v' q).stay (λe w' hc' q'=>?_) (λe q=>by rwa[Zd (ltH e _ q)]) λe ys q=>by rwa[Zd (ltH e _ q)]
     rcases hc' with rfl|hc'
     ·have:=nof e _ q
      exact hk e w' this.1 this.2.1 this.2.2.1 this.2.2.2 q'
     ·have:=nof e _ hc'
      exact hk e w' this.1 this.2.1 this.2.2.1 this.2.2.2 q'
  refine⟨_,Z,wpAny_letOwnedTupleGo_zip a1 λh2 hz2 hs2=>?_⟩;have fT:z≠s.heap.objs.size:=ltT z _ hz
  have I2:Inv X pins σ (upd H s.heap.objs.size<|.tup [x,y]) {s with heap:=h2}:=Inv.turned (s:={s with heap:=h'}) (h':=h2) (t':=s.toks) (it:=z) I1 (λb o hb q=>hs2.extBut b o hb q) (by rw[Zd fT];exact fz.1) fz.2.1 fz.2.2.2.1 fz.2.2.2.2.1 fz.2.2.2.2.2;refine⟨.ref s.heap.objs.size,_,I2,Z,⟨_,x,y,hT0,Z,Z,λys hy'=>by rw[I.list_inj hy' hq];exact hx,λys hy'=>by rwa[I.list_inj hy' hq2]⟩,
   ⟨hz2,hs2.extBut _ _ D.TIz (hkc _ _ (by have:=D.TIz;have:=D.TITO;have:=D.TIi1;have:=D.TIi2;simp;exact⟨D.TIz,D.TITO,D.TIi1,D.TIi2⟩) hTI),⟨u,v,hs2.extBut _ _ D.TOz a2⟩,a3.at λo q=>hs2.extBut i1 o D.i1z q,a4.at λo q=>hs2.extBut i2 o D.i2z q⟩,λc hc=>?_⟩
  have hc':c=z\/c=TI\/c=TO\/c=i1\/c=i2:=by simpa using hc
  have hn:=(hf c hc).1;rcases hc' with rfl|rfl|rfl|rfl|rfl
  ·rwa[Zd fT]
  ·rwa[Zd (ltT _ _ hTI)]
  ·rwa[Zd (ltT _ _ hTO)]
  ·obtain⟨o,eo,_⟩:=h1;rwa[Zd (ltT _ o eo)]
  ·obtain⟨o,eo,_⟩:=h2;rwa[Zd (ltT _ o eo)]
 done:=by
  intro X hP hw hK hc i pins s σ H E I hf st hg;subst hP hw hK;obtain⟨xs,ys,hq,hq2,hend⟩:=hg;obtain⟨hz,hTI,⟨u0,v0,hTO⟩,h1,h2⟩:=st;obtain⟨its,rv,p,_⟩:=I.list hq;obtain⟨its2,rv2,p2,_⟩:=I.list hq2;have l1:=rv.length
  have l2:=rv2.length;have fz:=hf z B
  have fTO:=hf TO B;have fi1:=hf i1 B
  have fi2:=hf i2 B;refine wpAny_pyNext_zip_end (I.ok.hd hc) D hz hTI hTO h1 h2 p.isList p2.isList (by
   rcases hend with e|e
   ·exact .inl (by simp;lia)
   ·exact .inr<|by simp;lia) λh' hk=>⟨Z,?_⟩
  have hkc:∀c o,c∉[z,TO,i1,i2]->s.heap.get? c=some o->h'.get? c=some o:=λc o hcx q=>hk c o (λe=>hcx<|by simp[e]) (λe=>hcx<|by simp[e]) (λe=>hcx<|by simp[e]) (λe=>hcx<|by simp[e]) q;have nof:∀c ob,H c=some ob->c≠z/\c≠TO/\c≠i1/\c≠i2:=λc ob q=>⟨λe=>(by rw[e,fz.1]at q;cases q),λe=>(by rw[e,fTO.1]at q;cases q),λe=>(by rw[e,fi1.1]at q;cases q),λe=>(by rw[e,fi2.1]at q;cases q)⟩
  refine I.step (g':=s.gens) (d':=s.drawn) (t':=s.toks) (ch:=[z,TO,i1,i2]) (λc hb=>?_) (λc o _ _ hcx q _=>hkc c o hcx q) (λc o _ _ hcx q _=>⟨o.slots,hkc c o hcx q⟩)
   (λc o _ q n=>n) (λc o hcx q=>⟨o,hkc c o hcx q⟩) (λc ys q=>q) (λc o v q=>q)
   (λc ps q=>⟨#[],by rw[q];simp⟩) (λm hm=>?_) (λc v' q=>?_) I.bare
  ·have hc':c=z\/c=TO\/c=i1\/c=i2:=by simpa using hb
   rcases hc' with rfl|rfl|rfl|rfl
   ·exact⟨fz.2.2.2.1,fz.2.1,fz.2.2.2.2.1,fz.2.2.2.2.2⟩
   ·exact⟨fTO.2.2.2.1,fTO.2.1,fTO.2.2.2.2.1,fTO.2.2.2.2.2⟩
   ·exact⟨fi1.2.2.2.1,fi1.2.1,fi1.2.2.2.2.1,fi1.2.2.2.2.2⟩
   ·exact⟨fi2.2.2.2.1,fi2.2.1,fi2.2.2.2.2.1,fi2.2.2.2.2.2⟩
  ·obtain⟨o,es,ep,ho',r⟩:=hm;exact⟨o,es,ep,hk _ o (YU fz.2.1) (YU fTO.2.1) (YU fi1.2.1) (YU fi2.2.1) ho',r⟩
  ·refine(I.hok c v' q).stay (λe w' hc' q'=>?_) (λe q=>q) λe ys q=>q;rcases hc' with rfl|hc'
   ·have:=nof e _ q
    exact hk e w' this.1 this.2.1 this.2.2.1 this.2.2.2 q'
   ·have:=nof e _ hc'
    exact hk e w' this.1 this.2.1 this.2.2.1 this.2.2.2 q'
 self:=λ_ _ _ _ _ st h=>Y1O st.1 h
noncomputable def iZip(K:PySem.W.Frag)(ta:TA):TI:=λσ H R=>ta σ H λvs H1=>∃a b,vs=[.ref a,.ref b]/\(∃xs ys,SqL K H1 a xs/\SqL K H1 b ys)/\R (Itz K a b) H1
section
variable{X:Cx}
theorem Zt9 (K:PySem.W.Frag) {elts:List Expr} {x1:Nat} {tpos:Pos} {e f:Expr} {ta:TA} {p pos:Pos} (hg:Gl X "zip") (hm:X.mg "zip"=none) (ha:PA X [e,f] ta) (hs:starEach [e,f] X.env=(false,eval e X.env)::starEach [f] X.env:=by rfl) (hpl:(backTo pos<|starEach [f] X.env).any (·.1)=false:=by rfl) (hk:X.K=K:=by rfl):
  PI X (.Tuple elts x1 tpos) (.Call (.Name "zip" p) [e,f] [] pos) (iZip K ta):=by
 subst hk;intro pins s σ H R I h;refine Call_ (Zw2 I hg hm Boot.«zip»<|Yy08 (thn (ha pos pins s σ H _ I h) λus s1 hz0=>?_) hs hpl);obtain⟨vs,H1,I1,r1,q1⟩:=hz0;obtain⟨a,b,ev,⟨xs,ys,hq,hq2⟩,q⟩:=q1;subst ev;obtain⟨u,u',rfl,ru,ru'⟩:=ZB12 r1;obtain rfl:u=Value.ref a:=ru;obtain rfl:u'=Value.ref b:=ru';obtain⟨its,rv,pl,_⟩:=I1.list hq;obtain⟨its2,rv2,pl2,_⟩:=I1.list hq2;have lt1:a<s1.heap.objs.size:=by obtain⟨_,_,e,_⟩:=pl;exact Yi e
 have lt2:b<s1.heap.objs.size:=by obtain⟨_,_,e,_⟩:=pl2;exact Yi e
 have D:ZipApart (s1.heap.objs.size+4) (s1.heap.objs.size+2) (s1.heap.objs.size+3) s1.heap.objs.size (s1.heap.objs.size+1) a b:=by
  have key:∀n x y:Nat,x<n->y<n->ZipApart (n+4) (n+2) (n+3) n (n+1) x y:=λn x y h1 h2=>by constructor<;>(intro q;have q':(_:Nat)=_:=q;lia)
  exact key _ _ _ lt1 lt2
 refine call_zip_2 pl.isList pl2.isList λh' hz hTI hTO hi1 hi2 hsz hk=>?_;refine Y1O (s:={s1 with heap:=h'}) hz ?_;refine⟨s1.heap.objs.size+4,[s1.heap.objs.size+4,s1.heap.objs.size+2,s1.heap.objs.size+3,s1.heap.objs.size,s1.heap.objs.size+1],_,_,H1,Z,I1.kept (t':=s1.toks) hk,ZA5 a b _ _ _ _ _ D,⟨hz,hTI,⟨_,_,hTO⟩,hi1,hi2⟩,λc hc=>?_,q⟩;have hle:s1.heap.objs.size<=c:=by
  have hc':c=s1.heap.objs.size+4\/c=s1.heap.objs.size+2\/c=s1.heap.objs.size+3\/c=s1.heap.objs.size\/c=s1.heap.objs.size+1:=by simpa using hc
  rcases hc' with e|e|e|e|e<;>rw[e]<;>first|exact Yy6 _|exact Y2M _ _
 exact I1.fpOk hle (I1.hok.fresh hle)
end
end L2
namespace My
open PySem L2
section
variable{K:PySem.W.Frag}{a b:Addr}{xs ys:List V}{g:TG}{tt:TT}{te:TE}{o:Nat}{fr:List Nat}{σ:St}{H:Hp}{Q:VK}
theorem ZI11(Pv:Nat->List V->Hp->Prop)(h0:Pv 0 [] H)(hxy:xs.length=ys.length)(hz:xs.length<sizeLine)(hl:∀i zs H,i<=xs.length->Pv i zs H->SqL K H a xs/\SqL K H b ys/\zs.length<=i)
  (hs:∀(i:Nat) x y zs H (p:Addr),H p=none->xs[i]?=some x->ys[i]?=some y->Pv i zs H->Zi4 Pv g tt te o fr σ i (.ref p) zs (upd H p<|.tup [x,y]))(hd:∀zs H,Pv xs.length zs H->∀p,H p=none->Q (.ref p) (upd H p<|.lst zs)):LcR (Itz K a b) g tt te o fr σ H Q:=by
 refine⟨λi m zs H=>m=xs.length-i/\i<=xs.length/\Pv i zs H,⟨xs.length,B,Yr _,h0⟩,?_⟩;rintro i m zs H ⟨rfl,hi,p⟩;obtain⟨q,q2,hy⟩:=hl i zs H hi p;by_cases hlt:i<xs.length
 ·refine .inr ⟨⟨xs,ys,xs[i],ys[i]'(by lia),q,q2,by simp[hlt],Yy0 XT⟩,O,λx H' ⟨T,u,v,hT,ex,eH,hu,hv⟩=>?_⟩;subst ex eH;exact hs i u v zs H T hT (hu xs q) (hv ys q2) p (λj zs H=>∃m',m'<xs.length-i/\m'=xs.length-j/\j<=xs.length/\Pv j zs H) λzs H p'=>⟨xs.length-(i+1),XR,Z,hlt,p'⟩
 ·have e:i=xs.length:=O;subst e;exact .inl ⟨⟨xs,ys,q,q2,.inl<|Yy6 _⟩,O,hd zs H p⟩
end
end My
namespace My
noncomputable abbrev Mx:=Nat->Nat->Int
noncomputable def sm:Nat->(Nat->Int)->Int
 |0,_=>0
 |n+1,f=>sm n f+f n
theorem ZD{f g:Nat->Int}:∀{n:Nat},(∀i,i<n->f i=g i)->sm n f=sm n g
 |0,_=>rfl
 |n+1,h=>by show sm n f+f n=sm n g+g n;rw[ZD λi hi=>h i O,h n O]
theorem ZN3{f g:Nat->Int}:∀{n:Nat},sm n (λi=>f i+g i)=sm n f+sm n g
 |0=>rfl
 |n+1=>by show sm n (λi=>f i+g i)+(f n+g n)=sm n f+f n+(sm n g+g n);rw[ZN3];lia
theorem Za5{c:Int}{f:Nat->Int}:∀{n:Nat},sm n (λi=>c*f i)=c*sm n f
 |0=>(Y0m c).symm
 |n+1=>by show sm n (λi=>c*f i)+c*f n=c*(sm n f+f n);rw[Za5,Y1Q]
theorem sm_zero:∀{n:Nat},sm n (λ_=>0)=0
 |0=>rfl
 |n+1=>by show sm n (λ_=>0)+0=0;rw[sm_zero];rfl
theorem Zd2{f:Nat->Int}(h:∀i,i<n->f i=0):sm n f=0:=by rw[ZD h];exact sm_zero
theorem Ze2{f:Nat->Int}:∀{n:Nat},sm (n+1) f=f 0+sm n (λi=>f (i+1))
 |0=>by show 0+f 0=f 0+0;lia
 |n+1=>by show sm (n+1) f+f (n+1)=f 0+(sm n (λi=>f<|i+1)+f (n+1));rw[Ze2];lia
theorem ZK5{f:Nat->Nat->Int}:∀{n:Nat},sm n (λi=>sm m (f i))=sm m (λj=>sm n λi=>f i j)
 |0=>sm_zero.symm
 |n+1=>by show sm n (λi=>sm m<|f i)+sm m (f n)=sm m λj=>sm n (λi=>f i j)+f n j;rw[ZK5,ZN3]
noncomputable def sk(j k:Nat):Nat:=if k<j then k else k+1
noncomputable def mn(A:Mx)(j:Nat):Mx:=λi k=>A (i+1) (sk j k)
noncomputable def sg(j:Nat):Int:=if j%2=0 then 1 else -1
theorem Zr4(j:Nat):sg (j+1)=- sg j:=by
 unfold sg;by_cases h:j%2=0
 ·rw[if_pos h,if_neg XT]
 ·rw[if_neg h,if_pos O];rfl
noncomputable def det:Nat->Mx->Int
 |0,_=>1
 |n+1,A=>sm (n+1) λj=>sg j*A 0 j*det n (mn A j)
theorem ZM5{j k n:Nat}(h:k<n):sk j k<n+1:=by unfold sk;split<;>lia
theorem Zl:∀{n:Nat}{A XU:Mx},(∀i j,i<n->j<n->A i j=XU i j)->det n A=det n XU
 |0,_,_,_=>rfl
 |n+1,A,XU,h=>ZD λj hj=>by rw[h 0 j O hj,Zl (A:=mn A j) (XU:=mn XU j) λi k hi hk=>h (i+1) (sk j k) O (ZM5 hk)]
theorem Zt2:∀{n:Nat}{A XU C:Mx}{c:Int}{i:Nat},i<n->(∀r j,r<n->j<n->r≠i->A r j=XU r j/\A r j=C r j)->(∀j,j<n->A i j=c*XU i j+C i j)->det n A=c*det n XU+det n C
 |0,_,_,_,_,_,hi,_,_=>absurd hi (Yy00 _)
 |n+1,A,XU,C,c,i,hi,h1,h2=>by
  show sm (n+1) (λj=>sg j*A 0 j*det n (mn A j))=c*sm (n+1) (λj=>sg j*XU 0 j*det n (mn XU j))+sm (n+1) λj=>sg j*C 0 j*det n (mn C j);rw[<-Za5,<-ZN3];refine ZD λj hj=>?_;cases i with
  |zero=>
   have e1:det n (mn XU j)=det n (mn A j):=Zl λr k hr hk=>(h1 (r+1) (sk j k) XT (ZM5 hk) O).1.symm;have e2:det n (mn C j)=det n (mn A j):=Zl λr k hr hk=>(h1 (r+1) (sk j k) O (ZM5 hk) O).2.symm
   rw[e1,e2,h2 j hj];generalize det n (mn A j)=d;generalize sg j=s;rw[Y1Q,Y3a,<-Y0g s c,Y0T s c,Y0g c s,Y0g c]
  |succ i=>
   have e:=Zt2 (n:=n) (A:=mn A j) (XU:=mn XU j) (C:=mn C j) (c:=c) (i:=i) O (λr k hr hk hne=>h1 (r+1) (sk j k) O (ZM5 hk) O) λk hk=>h2 (sk j k) (ZM5 hk);have e0:=h1 0 j O hj O
   rw[e,<-e0.1,<-e0.2];generalize det n (mn XU j)=d;generalize det n (mn C j)=d';generalize sg j*A 0 j=s;rw[Y1Q,<-Y0g,<-Y0g,Y0T s c]
theorem Zw14(h:j<=k):mn (mn A j) k i l=mn (mn A (k+1)) j i l:=by
 show A (i+1+1) (sk j<|sk k l)=A (i+1+1) (sk (k+1)<|sk j l);refine YX _ ?_;unfold sk;by_cases h1:l<j
 ·rw[if_pos (show l<k by lia),if_pos h1,if_pos (show l<k+1 by lia)]
 ·rw[if_neg h1];by_cases h2:l<k
  ·rw[if_pos h2,if_neg h1,if_pos (show l+1<k+1 by lia)]
  ·rw[if_neg h2,if_neg (show ¬l+1<j by lia),if_neg (show ¬l+1<k+1 by lia)]
theorem Zz74:∀{n:Nat}{A:Mx}{i:Nat},i+1<n->(∀j,j<n->A i j=A (i+1) j)->det n A=0
 |0,_,_,hi,_=>absurd hi (Yy00 _)
 |n+1,A,i+1,hi,h=>Zd2 λj hj=>by rw[Zz74 (A:=mn A j) (i:=i) O λk hk=>h (sk j k)<|ZM5 hk,Y0m]
 |1,_,0,hi,_=>absurd hi XT
 |n+2,A,0,_,h=>by
  obtain⟨t,ht⟩:∃t:Nat->Nat->Int,t=λj k=>sg j*A 0 j*(sg k*A 1 (sk j k)*det n (mn (mn A j) k)):=⟨_,Z⟩;have e1:det (n+2) A=sm (n+2) λj=>sm (n+1) (t j):=ZD λj hj=>by rw[ht,Za5];rfl
  have e2:∀j k,j<=k->k<n+1->t (k+1) j=- t j k:=λj k hjk hk=>by
   rw[ht];show sg (k+1)*A 0 (k+1)*(sg j*A 1 (sk (k+1) j)*det n (mn (mn A<|k+1) j))=- (sg j*A 0 j*(sg k*A 1 (sk j k)*det n (mn (mn A j) k)))
   have f1:sk (k+1) j=j:=by unfold sk;rw[if_pos O]
   have f2:sk j k=k+1:=by unfold sk;rw[if_neg O]
   have f3:det n (mn (mn A<|k+1) j)=det n (mn (mn A j) k):=Zl λi l _ _=>(Zw14 hjk).symm;rw[f1,f2,f3,Zr4,<-h j O,<-h (k+1) O];generalize det n (mn (mn A j) k)=d;generalize A 0 j=x;generalize A 0 (k+1)=y;generalize sg j=s;generalize sg k=u;simp only[Yy38,Int.neg_inj];simp only[Y0T,Y1Y,Y0g]
  have e3:sm (n+2) (λj=>sm (n+1)<|t j)=sm (n+2) (λj=>sm (n+1) λk=>if k<j then t j k else 0)+sm (n+2) (λj=>sm (n+1) λk=>if k<j then 0 else t j k):=by rw[<-ZN3];refine ZD λj _=>?_;rw[<-ZN3];refine ZD λk _=>?_;split<;>lia
  have e4:sm (n+2) (λj=>sm (n+1) λk=>if k<j then t j k else 0)=sm (n+1) (λk=>sm (n+1) λj=>if k<=j then t (j+1) k else 0):=by
   rw[ZK5];refine ZD λk _=>?_;rw[Ze2,if_neg O,Y1V];refine ZD λj _=>?_;by_cases c:k<=j
   ·rw[if_pos c,if_pos XT]
   ·rw[if_neg c,if_neg O]
  have e5:sm (n+2) (λj=>sm (n+1) λk=>if k<j then 0 else t j k)=sm (n+1) (λj=>sm (n+1) λk=>if j<=k then t j k else 0):=by
   show sm (n+1) (λj=>sm (n+1) λk=>if k<j then 0 else t j k)+sm (n+1) (λk=>if k<n+1 then 0 else t (n+1) k)=_;rw[Zd2 (f:=λk=>if k<n+1 then 0 else t (n+1) k) λk hk=>if_pos hk,Y0x];refine ZD λj _=>ZD λk _=>?_;by_cases c:j<=k
   ·rw[if_pos c,if_neg O]
   ·rw[if_neg c,if_pos O]
  rw[e1,e3,e4,e5,<-ZN3];refine Zd2 λj hj=>?_;rw[<-ZN3];refine Zd2 λk hk=>?_;by_cases c:j<=k
  ·rw[if_pos c,if_pos c,e2 j k c hk];lia
  ·rw[if_neg c,if_neg c];rfl
noncomputable def put2(A:Mx)(i:Nat)(x y:Nat->Int):Mx:=λr=>if r=i then x else if r=i+1 then y else A r
theorem Zn10{x x' y:Nat->Int}(hi:i+1<n):det n (put2 A i (λj=>x j+x' j) y)=det n (put2 A i x y)+det n (put2 A i x' y):=by
 have:=Zt2 (n:=n) (A:=put2 A i (λj=>x j+x' j) y) (XU:=put2 A i x y) (C:=put2 A i x' y) (c:=1) (i:=i) O (λr j _ _ hne=>by unfold put2;rw[if_neg hne,if_neg hne,if_neg hne];exact⟨Z,Z⟩) (λj _=>by unfold put2;rw[if_pos Z,if_pos Z,if_pos Z,Y0t])
 rw[this,Y0t]
theorem ZQ4{x y y':Nat->Int}(hi:i+1<n):det n (put2 A i x λj=>y j+y' j)=det n (put2 A i x y)+det n (put2 A i x y'):=by
 have ne:¬i+1=i:=O
 have:=Zt2 (n:=n) (A:=put2 A i x λj=>y j+y' j) (XU:=put2 A i x y) (C:=put2 A i x y') (c:=1) (i:=i+1) O (λr j _ _ hne=>by unfold put2;rw[if_neg hne,if_neg hne,if_neg hne];exact⟨Z,Z⟩) (λj _=>by unfold put2;rw[if_neg ne,if_neg ne,if_neg ne,if_pos Z,if_pos Z,if_pos Z,Y0t])
 rw[this,Y0t]
theorem Zz64{x:Nat->Int}(hi:i+1<n):det n (put2 A i x x)=0:=Zz74 hi λj _=>by unfold put2;rw[if_pos Z,if_neg O,if_pos Z]
theorem Zm10{x y:Nat->Int}(hi:i+1<n):det n (put2 A i y x)=- det n (put2 A i x y):=by have h:=Zz64 (A:=A) (x:=λj=>x j+y j) hi;rw[Zn10 hi,ZQ4 hi,ZQ4 hi,Zz64 hi,Zz64 hi]at h;lia
theorem Zk9:put2 A i (A i) (A (i+1))=A:=by
 funext r
 unfold put2;by_cases h:r=i
 ·rw[if_pos h,h]
 ·rw[if_neg h];by_cases h2:r=i+1
  ·rw[if_pos h2,h2]
  ·rw[if_neg h2]
theorem ZN6(hi:i+1<n):det n (put2 A i (A (i+1)) (A i))=- det n A:=by
 have:=Zm10 (A:=A) (x:=A i) (y:=A<|i+1) hi
 rwa[Zk9]at this
theorem Zz82:∀{d:Nat}{A:Mx},a+d+1<n->(∀j,j<n->A a j=A (a+d+1) j)->det n A=0
 |0,A,hn,h=>Zz74 hn h
 |d+1,A,hn,h=>by
  have e:=ZN6 (n:=n) (A:=A) (i:=a+d+1) O;have z:det n (put2 A (a+d+1) (A<|a+d+1+1)<|A<|a+d+1)=0:=by refine Zz82 (a:=a) (d:=d) O λj hj=>?_;unfold put2;rw[if_neg O,if_neg O,if_pos Z];exact h j hj
  lia
noncomputable def rotN(k t i:Nat):Nat:=if i<k then i else if i=k then k+t else if i<=k+t then i-1 else i
theorem Zl7(k i:Nat):rotN k 0 i=i:=by
 unfold rotN;by_cases h:i<k
 ·rw[if_pos h]
 ·rw[if_neg h];by_cases h2:i=k
  ·rw[if_pos h2,h2];rfl
  ·rw[if_neg h2,if_neg O]
theorem ZP6:∀{t:Nat}{A:Mx},k+t<n->det n (λi=>A (rotN k t i))=sg t*det n A
 |0,A,_=>by rw[show sg 0=1 from Z,Y0t];exact Zl λi j _ _=>by rw[Zl7]
 |t+1,A,h=>by
  have e:=ZP6 (n:=n) (k:=k) (t:=t) (A:=put2 A (k+t) (A<|k+t+1)<|A<|k+t) O;rw[ZN6 O]at e;have f:det n (λi=>A<|rotN k (t+1) i)=det n (λi=>put2 A (k+t) (A<|k+t+1) (A<|k+t)<|rotN k t i):=Zl λi j _ _=>by
   refine congrFun ?_ j;have r1:rotN k (t+1) i=if i<k then i else if i=k then k+(t+1) else if i<=k+(t+1) then i-1 else i:=rfl
   have r2:rotN k t i=if i<k then i else if i=k then k+t else if i<=k+t then i-1 else i:=rfl
   unfold put2;by_cases h1:i<k
   ·rw[if_pos h1]at r1 r2;rw[r1,r2,if_neg O,if_neg O]
   ·rw[if_neg h1]at r1 r2;by_cases h2:i=k
    ·rw[if_pos h2]at r1 r2;rw[r1,r2,if_pos Z];rfl
    ·rw[if_neg h2]at r1 r2;by_cases h3:i<=k+t
     ·rw[if_pos O]at r1;rw[if_pos h3]at r2;rw[r1,r2,if_neg O,if_neg O]
     ·rw[if_neg h3]at r2;by_cases h4:i=k+t+1
      ·rw[if_pos O]at r1;rw[r1,r2,if_neg XR,if_pos h4];exact YX A O
      ·rw[if_neg O]at r1;rw[r1,r2,if_neg O,if_neg h4]
  rw[f,e,Zr4,Int.mul_neg,Yy38]
theorem Zz84:∀{n:Nat}{A:Mx},(∀i,i<n+1->A i 0=0)->det (n+1) A=0
 |0,A,h=>by show 0+sg 0*A 0 0*1=0;rw[h 0 XT,Y0m];rfl
 |n+1,A,h=>Zd2 λj hj=>by
  cases j with
  |zero=>rw[h 0 O,Y0m,Y2k]
  |succ j=>
   rw[Zz84 (A:=mn A<|j+1) λi hi=>?_,Y0m];show A (i+1) (sk (j+1) 0)=0
   rw[show sk (j+1) 0=0 from Z];exact h (i+1) O
theorem ZS7(h:∀i,i<n->A (i+1) 0=0):det (n+1) A=A 0 0*det n (λi j=>A (i+1) (j+1)):=by
 show sm (n+1) (λj=>sg j*A 0 j*det n (mn A j))=_;rw[Ze2,Zd2 λj hj=>?_]
 ·rw[Y0x,show sg 0=1 from Z,Y0t];refine YX (A 0 0 * ·) (Zl λi j _ _=>?_);rfl
 ·cases n with
  |zero=>exact absurd hj (Yy00 _)
  |succ n=>
   rw[Zz84 (A:=mn A<|j+1) λi hi=>?_,Y0m];exact h i hi
theorem ZO6{i:Nat}(hi:i<n)(h:∀j,j<n->A i j=0):det n A=0:=by
 have:=Zt2 (A:=A) (XU:=A) (C:=A) (c:=1) hi (λr j _ _ _=>⟨Z,Z⟩) (λj hj=>by rw[h j hj];rfl)
 grind
theorem ZP4{c:Int}:∀{n:Nat}{A:Mx},det n (λi j=>c*A i j)=c^n*det n A
 |0,_=>by show(1:Int)=c^0*1;rw[Y1G];rfl
 |n+1,A=>by
  show sm (n+1) (λj=>sg j*(c*A 0 j)*det n (mn (λi j=>c*A i j) j))=c^(n+1)*sm (n+1) λj=>sg j*A 0 j*det n (mn A j);rw[<-Za5];refine ZD λj _=>?_;have e:det n (mn (λi j=>c*A i j) j)=c^n*det n (mn A j):=ZP4 (A:=mn A j)
  rw[e,Y2l];generalize det n (mn A j)=d;generalize c^n=p;generalize sg j=s;generalize A 0 j=x;simp only[Y0T,Y1Y,Y0g]
noncomputable def offN(R:Mx):Mx:=λi j=>R 0 0*R (i+1) (j+1)-R (i+1) 0*R 0 (j+1)
noncomputable def offB(R:Mx)(k:Nat):Mx:=λr j=>if r=0 then R 0 j else if r<=k then R 0 0*R r j-R r 0*R 0 j else R r j
theorem ZS6{m:Nat}:∀{k:Nat},k<m+1->det (m+1) (offB R k)=R 0 0^k*det (m+1) R
 |0,_=>by
  rw[Y1G,Y0t];refine Zl λi j _ _=>?_;unfold offB;by_cases h:i=0
  ·rw[if_pos h,h]
  ·rw[if_neg h,if_neg O]
 |k+1,hk=>by
  have ih:=ZS6 (m:=m) (R:=R) (k:=k) O;obtain⟨C,hC⟩:∃C:Mx,C=λr j=>if r=k+1 then-R (k+1) 0*R 0 j else offB R k r j:=⟨_,Z⟩
  obtain⟨XU,hB⟩:∃XU:Mx,XU=λr j=>if r=k+1 then R 0 j else offB R k r j:=⟨_,Z⟩
  obtain⟨XZ,hZ⟩:∃XZ:Mx,XZ=λr j=>if r=k+1 then 0 else offB R k r j:=⟨_,Z⟩
  have hBz:det (m+1) XU=0:=Zz82 (n:=m+1) (a:=0) (d:=k) O λj hj=>by
   rw[hB];show(if 0=k+1 then _ else offB R k 0 j)=if 0+k+1=k+1 then _ else _
   rw[if_neg O,if_pos O];rfl
  have hZz:det (m+1) XZ=0:=ZO6 (i:=k+1) hk λj hj=>by rw[hZ];exact if_pos rfl
  have hCz:det (m+1) C=0:=by
   have:=Zt2 (A:=C) (XU:=XU) (C:=XZ) (c:=- R (k+1) 0) hk (λr j _ _ hne=>by
    rw[hC,hB,hZ];show(if r=k+1 then _ else offB R k r j)=(if r=k+1 then _ else offB R k r j)/\(if r=k+1 then _ else offB R k r j)=(if r=k+1 then _ else offB R k r j)
    rw[if_neg hne,if_neg hne,if_neg hne];exact⟨Z,Z⟩) (λj _=>by
    rw[hC,hB,hZ];show(if k+1=k+1 then _ else _)=_*(if k+1=k+1 then _ else _)+(if k+1=k+1 then _ else _)
    rw[if_pos Z,if_pos Z,if_pos Z,Y0x])
   rw[this,hBz,hZz,Y0m];rfl
  have:=Zt2 (A:=offB R<|k+1) (XU:=offB R k) (C:=C) (c:=R 0 0) hk (λr j _ _ hne=>by
   have e1:offB R (k+1) r j=offB R k r j:=by
    unfold offB;by_cases h0:r=0
    ·rw[if_pos h0,if_pos h0]
    ·rw[if_neg h0,if_neg h0];by_cases h1:r<=k
     ·rw[if_pos h1,if_pos O]
     ·rw[if_neg h1,if_neg O]
   refine⟨e1,?_⟩;rw[hC,e1];show _=if r=k+1 then _ else _
   rw[if_neg hne]) (λj _=>by
   have e1:offB R (k+1) (k+1) j=R 0 0*R (k+1) j-R (k+1) 0*R 0 j:=by unfold offB;rw[if_neg O,if_pos O]
   have e2:offB R k (k+1) j=R (k+1) j:=by unfold offB;rw[if_neg XT,if_neg O]
   rw[e1,e2,hC];show _=_+(if k+1=k+1 then-R (k+1) 0*R 0 j else _)
   rw[if_pos Z,Yy38]
   rfl)
  rw[this,hCz,ih,Y0x,Y2l];rw[<-Y0g,Y0T (R 0 0)]
theorem Zi12:R 0 0*det m (offN R)=R 0 0^m*det (m+1) R:=by
 rw[<-ZS6 (k:=m) O,ZS7 λi hi=>?_]
 ·have e0:offB R m 0 0=R 0 0:=if_pos rfl;rw[e0];refine YX (R 0 0 * ·) (Zl λi j hi hj=>?_);unfold offB offN;rw[if_neg O,if_pos O]
 ·unfold offB;rw[if_neg O,if_pos O,Y0T];lia
noncomputable def ex(k:Nat)(r:Nat->Nat)(i:Nat):Nat:=if i<k then i else k+r (i-k)
noncomputable def Bar(A:Mx)(k M:Nat)(R:Mx)(last:Int):Prop:=last≠0/\∀m r c,(∀i,i<m+1->r i<M/\c i<M)->
 det (m+1) (λi j=>R (r i)<|c j)=det (k+m+1) (λi j=>A (ex k r i)<|ex k c j)*last^m
theorem ZY7(A:Mx)(n:Nat):Bar A 0 n A 1:=⟨J,λm r c _=>by rw[Int.one_pow,Y1p,Y1U];refine Zl λi j _ _=>?_;unfold ex;rw[if_neg (Yy00 _),if_neg<|Yy00 _,Y1U,Y1U,Y2J,Y2J]⟩
theorem Zn9{p:Int}(h:p≠0):∀n:Nat,p^n≠0
 |0=>by rw[Y1G];decide
 |n+1=>by rw[Y2l];exact Int.mul_ne_zero (Zn9 h n) h
noncomputable def bef(r:Nat->Nat):Nat->Nat
 |0=>0
 |i+1=>r i+1
theorem Zz412(k:Nat)(r:Nat->Nat)(i:Nat):ex k (bef r) i=ex (k+1) r i:=by
 unfold ex;by_cases h:i<k
 ·rw[if_pos h,if_pos O]
 ·rw[if_neg h];by_cases h2:i=k
  ·rw[if_pos O,h2,Y0R];rfl
  ·rw[if_neg O];obtain⟨d,rfl⟩:∃d,i=k+d+1:=⟨i-k-1,XR⟩;rw[show k+d+1-k=d+1 by lia,show k+d+1-(k+1)=d by lia];show k+(r d+1)=k+1+r d
   lia
theorem ZO8{k M:Nat}(h:Bar A k (M+1) R last)(hp:R 0 0≠0){m:Nat}{r c:Nat->Nat}(hb:∀i,i<m+1->r i<M/\c i<M):
  det (m+1) (λi j=>offN R (r i)<|c j)=R 0 0^m*(last^(m+1)*det (k+1+m+1) λi j=>A (ex (k+1) r i)<|ex (k+1) c j):=by
 have e1:=Zi12 (m:=m+1) (R:=λi j=>R (bef r i)<|bef c j);have e2:=h.2 (m+1) (bef r) (bef c) λi hi=>by
  cases i with
  |zero=>exact⟨Nat.succ_pos _,Nat.succ_pos _⟩
  |succ i=>have:=hb i O;exact⟨Nat.succ_lt_succ this.1,Nat.succ_lt_succ this.2⟩
 have e3:det (m+1) (offN λi j=>R (bef r i)<|bef c j)=det (m+1) (λi j=>offN R (r i)<|c j):=rfl;have e4:det (k+(m+1)+1) (λi j=>A (ex k (bef r) i)<|ex k (bef c) j)=det (k+1+m+1) (λi j=>A (ex (k+1) r i)<|ex (k+1) c j):=by rw[show k+(m+1)+1=k+1+m+1 by lia];exact Zl λi j _ _=>by rw[Zz412,Zz412]
 rw[e3]at e1;rw[e4]at e2;have e5:R (bef r 0) (bef c 0)=R 0 0:=rfl
 rw[e5,e2]at e1;generalize det (m+1) (λi j=>offN R (r i)<|c j)=x at *;generalize det (k+1+m+1) (λi j=>A (ex (k+1) r i)<|ex (k+1) c j)=y at *;rw[Y2l]at e1;refine Yy39 hp ?_;rw[e1,Y0T y,Y0T<|R 0 0^m,Y0g]
theorem ZR6(A:Mx):det 1 A=A 0 0:=by show 0+sg 0*A 0 0*1=A 0 0;rw[show sg 0=1 from Z];lia
theorem Zs12{k M:Nat}(h:Bar A k (M+1) R last)(hp:R 0 0≠0)(hi:i<M)(hj:j<M):
  offN R i j=last*det (k+2) (λa b=>A (ex (k+1) (λ_=>i) a)<|ex (k+1) (λ_=>j) b):=by
 have:=ZO8 h hp (m:=0) (r:=λ_=>i) (c:=λ_=>j) λ_ _=>⟨hi,hj⟩
 rwa[ZR6,Y1G,Y0t,Y2l,Y1G,Y0t]at this
theorem Zy10(h:Bar A k (M+1) R last)(hp:R 0 0≠0)(hR:∀i j,i<M->j<M->R' i j=(offN R i j).fdiv last):Bar A (k+1) M R' (R 0 0):=by
 refine⟨hp,λm r c hb=>?_⟩;have ex1:∀i j,i<M->j<M->offN R i j=last*R' i j:=λi j hi hj=>by rw[hR i j hi hj,Zs12 h hp hi hj,Int.mul_fdiv_cancel_left _ h.1]
 have e1:=ZO8 h hp hb;have e2:det (m+1) (λi j=>offN R (r i)<|c j)=last^(m+1)*det (m+1) (λi j=>R' (r i)<|c j):=by rw[<-ZP4];exact Zl λi j hi hj=>ex1 _ _ (hb i hi).1 (hb j hj).2
 rw[e2]at e1;refine Yy39 (Zn9 h.1<|m+1) ?_;rw[e1];generalize det (k+1+m+1) (λi j=>A (ex (k+1) r i)<|ex (k+1) c j)=y;rw[Y1Y,Y0T y]
theorem Zr12(h:Bar A k M R last)(ht:t<M):Bar (λi=>A (rotN k t i)) k M (λi=>R (rotN 0 t i)) last:=by
 refine⟨h.1,λm r c hb=>?_⟩;have e:=h.2 m (λi=>rotN 0 t<|r i) c λi hi=>⟨by
  have:=(hb i hi).1
  unfold rotN;rw[if_neg O];split
  ·lia
  ·split<;>lia,(hb i hi).2⟩
 rw[e];refine YX (· * last^m) (Zl λi j _ _=>?_);refine YX (λa=>A a<|ex k c j) ?_;unfold ex;by_cases hi:i<k
 ·rw[if_pos hi,if_pos hi];unfold rotN;rw[if_pos hi]
 ·rw[if_neg hi,if_neg hi];show k+rotN 0 t (r<|i-k)=rotN k t (k+r (i-k))
  generalize r (i-k)=a;have r1:rotN 0 t a=if a<0 then a else if a=0 then 0+t else if a<=0+t then a-1 else a:=rfl
  have r2:rotN k t (k+a)=if k+a<k then k+a else if k+a=k then k+t else if k+a<=k+t then k+a-1 else k+a:=rfl
  rw[if_neg O]at r1 r2;by_cases h1:a=0
  ·rw[if_pos h1]at r1;rw[if_pos O]at r2;rw[r1,r2];lia
  ·rw[if_neg h1]at r1;rw[if_neg O]at r2;by_cases h2:a<=t
   ·rw[if_pos O]at r1;rw[if_pos O]at r2;rw[r1,r2];lia
   ·rw[if_neg O]at r1;rw[if_neg O]at r2;rw[r1,r2]
theorem ZG12(k i:Nat):ex k (λi=>i) i=i:=by
 unfold ex;by_cases h:i<k
 ·rw[if_pos h]
 ·rw[if_neg h];show k+(i-k)=i
  grind
theorem Zz10{k M:Nat}(h:Bar A k (M+1) R last)(h0:∀i,i<M+1->R i 0=0):det (k+M+1) A=0:=by
 have e:=h.2 M (λi=>i) (λi=>i) λi hi=>⟨hi,hi⟩;rw[Zz84 (A:=λi j=>R i j) h0]at e;have e2:det (k+M+1) (λi j=>A (ex k (λi=>i) i)<|ex k (λi=>i) j)=det (k+M+1) A:=Zl λi j _ _=>by rw[ZG12,ZG12]
 rw[e2]at e;rcases Int.mul_eq_zero.mp e.symm with z|z
 ·exact z
 ·exact absurd z (Zn9 h.1 M)
theorem Zt12(h:Bar A k 1 R last):R 0 0=det (k+1) A:=by
 have e:=h.2 0 (λi=>i) (λi=>i) λi hi=>⟨O,XT⟩;rw[ZR6,Y1G,Y1p]at e;have e2:det (k+0+1) (λi j=>A (ex k (λi=>i) i)<|ex k (λi=>i) j)=det (k+1) A:=Zl λi j _ _=>by rw[ZG12,ZG12]
 rwa[e2]at e
end My
namespace L2
open PySem PySem.Spec PyProof.Rows
noncomputable def ZK14(i j:Int):Prop:=i.natAbs<2^9000/\j.natAbs<2^9000
noncomputable def ZL14(i j:Int):Prop:=j≠0/\j.natAbs<2^9000
theorem ZW4(h:a.natAbs<2^9000):Builtin.Int.intBits a<=9000:=PySem.intBits_le_iff.mpr h
section
variable{X:Cx}
theorem Zz96:OpR X (binaryOp .Mult) (rI ZK14 λi j=>.int (i*j)):=opI λ_ _ _ _ _ _ _ hc q=>mul_int q (.of_bits (Yv (ZW4 hc.1) J)<|Yv (ZW4 hc.2) J)
theorem ZB9:OpR X (binaryOp .FloorDiv) (rI ZL14 λi j=>.int (i.fdiv j)):=opI λ_ _ _ _ _ _ _ hc q=>floordiv_int hc.1 q (.inl<|PyProof.noPylong_of_log2<|(Nat.log2_lt (by have:=hc.1;lia)).mpr hc.2)
end
end L2
namespace My
noncomputable def fnL(L:List (List Int)):Mx:=λi j=>(L.getD i []).getD j 0
theorem Zy2{l:List Int}{x:Int}(h:L[i]?=some l)(h2:l[j]?=some x):fnL L i j=x:=by
 have e:L.getD i []=l:=by rw[Yy7,h];rfl
 unfold fnL;rw[e,Yy7,h2];rfl
noncomputable def bnd(XU:Nat):Nat->Nat
 |0=>1
 |n+1=>(n+1)*(XU*bnd XU n)
theorem ZV10{f:Nat->Int}{C:Nat}:∀{n:Nat},(∀i,i<n->(f i).natAbs<=C)->(sm n f).natAbs<=n*C
 |0,_=>by show(0:Int).natAbs<=0*C;rw[Nat.zero_mul];exact Yy6 0
 |n+1,h=>by
  have h1:=ZV10 (n:=n) λi hi=>h i O;have h2:=h n O
  have h3:(sm n f+f n).natAbs<=(sm n f).natAbs+(f n).natAbs:=Int.natAbs_add_le ..;show(sm n f+f n).natAbs<=(n+1)*C
  rw[Nat.succ_mul];lia
theorem ZG8:∀{n:Nat}{A:Mx},(∀i j,i<n->j<n->(A i j).natAbs<=XU)->(det n A).natAbs<=bnd XU n
 |0,_,_=>Yy6 1
 |n+1,A,h=>by
  refine ZV10 λj hj=>?_;have e:(sg j).natAbs=1:=by unfold sg;split<;>rfl
  rw[Y3f,Y3f,e,Nat.one_mul];exact Yy11 (h 0 j O hj) (ZG8 λi k hi hk=>h (i+1) (sk j k) O<|ZM5 hk)
theorem Zq12{b:Nat}:∀{n:Nat},n<=16->bnd (2^b) n<=2^((b+4)*n)
 |0,_=>by show 1<=2^((b+4)*0);rw[Nat.mul_zero];exact Yy6 1
 |n+1,h=>by
  have ih:=Zq12 (b:=b) (n:=n) O;have e:2^((b+4)*(n+1))=16*(2^b*2^((b+4)*n)):=by rw[Nat.mul_succ,Nat.pow_add,Nat.pow_add,Y2L<|2^((b+4)*n),Y2L (2^b)<|2^4,Nat.mul_assoc]
  rw[e];show(n+1)*(2^b*bnd (2^b) n)<=_
  exact Yy11 h (Yy11 (Yy6 _) ih)
theorem ZR7(hn:n<=16)(h:∀i j,i<n->j<n->(A i j).natAbs<=2^400):(det n A).natAbs<2^9000:=by
 have h1:=ZG8 h;have h2:=Zq12 (b:=400) hn
 have h3:2^((400+4)*n)<=2^(404*16):=Y2g J (Yy11 (Yy6 _) hn);have h4:2^(404*16)<2^9000:=Nat.pow_lt_pow_right J J
 exact Y2r (Yv h1<|Yv h2 h3) h4
theorem ZE13(h:Bar A k M R last){i j:Nat}(hi:i<M)(hj:j<M):R i j=det (k+1) (λa b=>A (ex k (λ_=>i) a) (ex k (λ_=>j) b)):=by
 have:=h.2 0 (λ_=>i) (λ_=>j) λ_ _=>⟨hi,hj⟩
 rwa[ZR6,Y1G,Y1p]at this
theorem ZZ7{k M n:Nat}(h:Bar A k M R last)(hn:k+M=n)(hn16:n<=16)(hA:∀i j,i<n->j<n->(A i j).natAbs<=2^400){i j:Nat}(hi:i<M)(hj:j<M):(R i j).natAbs<2^9000:=by
 rw[ZE13 h hi hj];refine ZR7 O λa b ha hb=>hA _ _ ?_ ?_
 ·have e:ex k (λ_=>i) a=if a<k then a else k+i:=rfl
  rw[e];split<;>lia
 ·have e:ex k (λ_=>j) b=if b<k then b else k+j:=rfl
  rw[e];split<;>lia
theorem Zz311{L:List (List Int)}{l:List Int}(h:L[t]?=some l)(i:Nat):(l::L.eraseIdx t)[i]?=L[rotN 0 t i]?:=by
 have ht:=(Yy4.mp h).1;have r:rotN 0 t i=if i<0 then i else if i=0 then 0+t else if i<=0+t then i-1 else i:=rfl
 rw[if_neg O]at r;cases i with
 |zero=>
  rw[if_pos Z,Y1U]at r;rw[r,h];rfl
 |succ i=>
  rw[if_neg O,Y1U]at r;rw[r,List.getElem?_cons_succ,Yy29];by_cases c:i+1<=t
  ·rw[if_pos c,if_pos O];rfl
  ·rw[if_neg c,if_neg O]
theorem Zz411{l:List Int}(h:L[t]?=some l):fnL (l::L.eraseIdx t)=λi=>fnL L (rotN 0 t i):=by
 funext i j
 show((l::L.eraseIdx t).getD i []).getD j 0=(L.getD (rotN 0 t i) []).getD j 0;refine YX (λr:List Int=>r.getD j 0) ?_;rw[Yy7,Yy7,Zz311 h]
noncomputable def tkn(y:Int)(p:List Int)(last:Int)(l:List Int):List Int:=List.zipWith (λown other=>(y*own-l.headD 0*other).fdiv last) l.tail p
theorem Zz18(h:l.length=p.length+1):(tkn y p last l).length=p.length:=by unfold tkn;rw[Y0e,Yy27];grind
theorem ZQ10{L:List (List Int)}{M:Nat}(hp:p.length=M)(hL:L.length=M)(hl:∀l∈L,l.length=M+1){i j:Nat}(hi:i<M)(hj:j<M):
  fnL (L.map<|tkn y p last) i j=(offN (fnL<|(y::p)::L) i j).fdiv last:=by
 obtain⟨l,hli⟩:∃l,L[i]?=some l:=⟨_,Yy0 O⟩;have hll:=hl l (Yy8 hli)
 obtain⟨x,l',rfl⟩:∃x l',l=x::l':=by
  cases l with
  |nil=>cases hll
  |cons x l'=>exact⟨x,l',Z⟩
 have hl':l'.length=M:=by rw[Yq]at hll;lia
 obtain⟨u,hu⟩:∃u,l'[j]?=some u:=⟨_,Yy0 O⟩;obtain⟨v,hv⟩:∃v,p[j]?=some v:=⟨_,Yy0 O⟩;have e1:fnL (L.map<|tkn y p last) i j=(y*u-x*v).fdiv last:=Zy2 (l:=tkn y p last<|x::l') (by rw[Yg,hli];rfl) (by
  show(List.zipWith _ l' p)[j]?=_;rw[Y0f,hu,hv]
  rfl)
 have e2:fnL ((y::p)::L) 0 0=y:=rfl;have e3:fnL ((y::p)::L) (i+1) (j+1)=u:=Zy2 (l:=x::l') hli hu
 have e4:fnL ((y::p)::L) (i+1) 0=x:=Zy2 (l:=x::l') hli rfl;have e5:fnL ((y::p)::L) 0 (j+1)=v:=Zy2 (l:=y::p) Z hv
 rw[e1];unfold offN;rw[e2,e3,e4,e5]
end My
namespace My
open PySem L2
noncomputable def RowV(K:PySem.W.Frag)(H:Hp)(v:V)(l:List Int):Prop:=∃r k,v=.ref r/\SqK k K H r (IL l)
noncomputable def LiV(d:Addr)(H:Hp)(v:V)(l:List Int):Prop:=∃r,v=.ref r/\H r=some (.lst<|IL l)/\r≠d
theorem LiV.same(s:Same H H')(h:LiV d H v l):LiV d H' v l:=by obtain⟨r,e,h,n⟩:=h;exact⟨r,e,s _ _ h,n⟩
theorem LiV.mut(h:LiV d H v l):LiV d (upd H d o) v l:=by obtain⟨r,e,h,n⟩:=h;exact⟨r,e,by rw[Zd n];exact h,n⟩
theorem LiV.list(h:LiV d H v l):Zq5 H v l:=by obtain⟨r,e,h,_⟩:=h;exact⟨r,e,h⟩
theorem Bears.erase{α:Type}[DecidableEq α]{R:V->α->Prop}{xs:List V}{l:List α}(h:Bears R xs l)(t:Nat):Bears R (xs.eraseIdx t) (l.eraseIdx t):=by
 have hl:=h.1;refine⟨by rw[Y2j,Y2j,hl],λi a e=>?_⟩;rw[Yy29]at e;rw[Yy29];split at e
 ·next c=>rw[if_pos c];exact h.2 _ _ e
 ·next c=>rw[if_neg c];exact h.2 _ _ e
theorem ZZ6(x:Int)(l:List Int):cutV (IL (x::l)) (some 1) none=IL l:=by rw[ZS1 J];rfl
theorem Zc14(t:Nat):sg t*sg t=1:=by unfold sg;split<;>rfl
end My
namespace My
theorem Zz79{f:Nat->Nat->Int}:sm n (λi=>sm m λj=>f i j)=sm m (λj=>sm n λi=>f i j):=ZK5
theorem ZF8:∀{n:Nat}{A:Mx},det (n+1) A=sm (n+1) λi=>sg i*A i 0*det n (λr c=>A (sk i r) (c+1))
 |0,A=>rfl
 |n+1,A=>by
  have e1:det (n+2) A=sg 0*A 0 0*det (n+1) (mn A 0)+sm (n+1) λj=>sg (j+1)*A 0 (j+1)*det (n+1) (mn A<|j+1):=Ze2;have e2:sm (n+2) (λi=>sg i*A i 0*det (n+1) λr c=>A (sk i r)<|c+1)=sg 0*A 0 0*det (n+1) (λr c=>A (sk 0 r)<|c+1)+sm (n+1) λi=>sg (i+1)*A (i+1) 0*det (n+1) (λr c=>A (sk (i+1) r)<|c+1):=Ze2
  rw[e1,e2];have e3:det (n+1) (mn A 0)=det (n+1) (λr c=>A (sk 0 r)<|c+1):=Zl λr c _ _=>rfl
  rw[e3];refine YX (λz:Int=>sg 0*A 0 0*det (n+1) (λr c=>A (sk 0 r)<|c+1)+z) ?_;obtain⟨D,hD⟩:∃D:Nat->Nat->Int,D=λi j=>det n (λr c=>A (sk i r+1)<|sk (j+1)<|c+1):=⟨_,Z⟩;have e4:∀j,j<n+1->det (n+1) (mn A<|j+1)=sm (n+1) λi=>sg i*A (i+1) 0*D i j:=λj _=>by rw[ZF8,hD];rfl
  have e5:∀i,i<n+1->det (n+1) (λr c=>A (sk (i+1) r)<|c+1)=sm (n+1) λj=>sg j*A 0 (j+1)*D i j:=λi hi=>by
   show sm (n+1) (λj=>sg j*A (sk (i+1) 0) (j+1)*det n (mn (λr c=>A (sk (i+1) r)<|c+1) j))=_;refine ZD λj _=>?_;rw[hD];show sg j*A (sk (i+1) 0) (j+1)*det n (mn (λr c=>A (sk (i+1) r)<|c+1) j)=sg j*A 0 (j+1)*det n (λr c=>A (sk i r+1)<|sk (j+1)<|c+1)
   rw[show sk (i+1) 0=0 from Z];refine YX (sg j*A 0 (j+1) * ·) (Zl λr c _ _=>?_);show A (sk (i+1)<|r+1) (sk j c+1)=A (sk i r+1) (sk (j+1)<|c+1)
   have f1:sk (i+1) (r+1)=sk i r+1:=by
    unfold sk;by_cases h:r<i
    ·rw[if_pos h,if_pos O]
    ·rw[if_neg h,if_neg O]
   have f2:sk j c+1=sk (j+1) (c+1):=by
    unfold sk;by_cases h:c<j
    ·rw[if_pos h,if_pos O]
    ·rw[if_neg h,if_neg O]
   rw[f1,f2]
  have e6:sm (n+1) (λj=>sg (j+1)*A 0 (j+1)*det (n+1) (mn A<|j+1))=sm (n+1) λj=>sm (n+1) λi=>sg (j+1)*A 0 (j+1)*(sg i*A (i+1) 0*D i j):=ZD λj hj=>by rw[e4 j hj,Za5]
  have e7:sm (n+1) (λi=>sg (i+1)*A (i+1) 0*det (n+1) λr c=>A (sk (i+1) r)<|c+1)=sm (n+1) λi=>sm (n+1) λj=>sg (i+1)*A (i+1) 0*(sg j*A 0 (j+1)*D i j):=ZD λi hi=>by rw[e5 i hi,Za5]
  rw[e6,e7,Zz79];refine ZD λi _=>ZD λj _=>?_;rw[Zr4,Zr4];generalize D i j=d;generalize A 0 (j+1)=x;generalize A (i+1) 0=y;generalize sg i=s;generalize sg j=u;simp only[Yy38,Int.neg_inj];simp only[Y0T,Y1Y,Y0g]
theorem det_T:∀{n:Nat}{A:Mx},det n (λi j=>A j i)=det n A
 |0,_=>rfl
 |n+1,A=>by
  rw[ZF8 (A:=A)];refine ZD λj _=>?_;show sg j*A j 0*det n (λi k=>A (sk j k)<|i+1)=sg j*A j 0*det n (λr c=>A (sk j r)<|c+1)
  rw[<-det_T (A:=λr c=>A (sk j r)<|c+1)]
theorem Zg12{n a b:Nat}(ha:a<n)(hb:b<n)(hne:a≠b)(h:∀j,j<n->A a j=A b j):det n A=0:=by
 rcases Nat.lt_or_gt_of_ne hne with c|c
 ·obtain⟨d,rfl⟩:∃d,b=a+d+1:=⟨b-a-1,XR⟩;exact Zz82 hb h
 ·obtain⟨d,rfl⟩:∃d,a=b+d+1:=⟨a-b-1,XR⟩;exact Zz82 ha λj hj=>(h j hj).symm
noncomputable def putr(A:Mx)(i:Nat)(x:Nat->Int):Mx:=λr=>if r=i then x else A r
theorem ZQ6{c:Int}{x y:Nat->Int}(hi:i<n):det n (putr A i λj=>c*x j+y j)=c*det n (putr A i x)+det n (putr A i y):=
 Zt2 hi (λr j _ _ hne=>by unfold putr;rw[if_neg hne,if_neg hne,if_neg hne];exact⟨Z,Z⟩) (λj _=>by unfold putr;rw[if_pos Z,if_pos Z,if_pos Z])
theorem ZW5:putr A i (A i)=A:=by
 funext r
 unfold putr;by_cases h:r=i
 ·rw[if_pos h,h]
 ·rw[if_neg h]
theorem ZU6{n a b:Nat}{c:Int}(ha:a<n)(hb:b<n)(hne:a≠b):det n (putr A a λj=>A a j+c*A b j)=det n A:=by
 have e:(λj=>A a j+c*A b j)=λj=>c*A b j+A a j:=by funext j;lia
 rw[e,ZQ6 ha,ZW5,Zg12 ha hb hne (A:=putr A a<|A b) λj _=>?_,Y0m,Y1V];unfold putr;rw[if_pos Z,if_neg (YU hne)]
theorem Zz313(a i:Nat):rotN 0 a (i+1)=sk a i:=by
 have r:rotN 0 a (i+1)=if i+1<0 then i+1 else if i+1=0 then 0+a else if i+1<=0+a then i+1-1 else i+1:=rfl
 rw[if_neg O,if_neg O]at r;rw[r];unfold sk;by_cases h:i<a
 ·rw[if_pos h,if_pos O];lia
 ·rw[if_neg h,if_neg O]
theorem Zz68{f:Nat->Int}{a:Nat}:∀{n:Nat},a<n->(∀j,j<n->j≠a->f j=0)->sm n f=f a
 |0,h,_=>absurd h (Yy00 _)
 |n+1,h,h0=>by
  show sm n f+f n=f a;by_cases c:a=n
  ·rw[Zd2 λi hi=>h0 i XR O,c,Y1V]
  ·rw[Zz68 (n:=n) O λj hj hne=>h0 j O hne,h0 n O O,Y0x]
theorem Zl10(ha:a<n+1):det (n+1) (putr A a λj=>if j=a then 1 else 0)=det n (λi j=>A (sk a i) (sk a j)):=by
 have e:=ZP6 (n:=n+1) (k:=0) (t:=a) (A:=putr A a λj=>if j=a then 1 else 0) O;have r0:rotN 0 a 0=a:=by show(if 0<0 then 0 else if 0=0 then 0+a else _)=a;rw[if_neg O,if_pos Z,Y1U]
 have top:det (n+1) (λi=>putr A a (λj=>if j=a then 1 else 0)<|rotN 0 a i)=sg a*det n (λi j=>A (sk a i)<|sk a j):=by
  show sm (n+1) (λj=>sg j*putr A a (λj=>if j=a then 1 else 0) (rotN 0 a 0) j*det n (mn (λi=>putr A a (λj=>if j=a then 1 else 0)<|rotN 0 a i) j))=_;rw[Zz68 ha λj _ hne=>?_]
  ·rw[r0];have e1:putr A a (λj=>if j=a then 1 else 0) a a=1:=by unfold putr;rw[if_pos Z,if_pos Z]
   rw[e1,Y1p];refine YX (sg a * ·) (Zl λi j _ _=>?_);show putr A a (λj=>if j=a then 1 else 0) (rotN 0 a<|i+1) (sk a j)=A (sk a i) (sk a j)
   rw[Zz313];unfold putr;rw[if_neg (by unfold sk;split<;>lia)]
  ·rw[r0];have e1:putr A a (λj=>if j=a then 1 else 0) a j=0:=by unfold putr;rw[if_pos Z,if_neg hne]
   rw[e1,Y0m,Y2k]
 rw[top]at e;have h:=YX (sg a * ·) e
 simp only[<-Y0g]at h;rw[show sg a*sg a=1 by unfold sg;split<;>rfl,Y0t,Y0t]at h
 exact h.symm
theorem ZT6{w:Int}(ha:a<n+1):det (n+1) (λi j=>A i j+w*((if i=a then 1 else 0)*(if j=a then 1 else 0)))=det (n+1) A+w*det n (λi j=>A (sk a i) (sk a j)):=by
 have e:det (n+1) (λi j=>A i j+w*((if i=a then 1 else 0)*(if j=a then 1 else 0)))=det (n+1) (putr A a λj=>w*(λj=>if j=a then 1 else 0) j+A a j):=Zl λi j _ _=>by
  unfold putr;by_cases h:i=a
  ·subst h;rw[if_pos Z,if_pos Z,Y0t];show A i j+w*(if j=i then 1 else 0)=w*(if j=i then 1 else 0)+A i j
   exact Int.add_comm ..
  ·rw[if_neg h,if_neg h,Y2k,Y0m,Y0x]
 rw[e,ZQ6 ha,ZW5,Zl10 ha];lia
noncomputable def ind(u v i:Nat):Int:=(if i=u then 1 else 0)-(if i=v then 1 else 0)
noncomputable def Zt5(A:Mx)(a b:Nat):Mx:=λi j=>(A i j+(if i=b then A a j else 0))+(if j=b then A i a+(if i=b then A a a else 0) else 0)
theorem ZR4(ha:a<n)(hb:b<n)(hne:a≠b):det n (Zt5 A a b)=det n A:=by
 have e1:det n A=det n (putr A b λj=>A b j+1*A a j):=(ZU6 hb ha<|YU hne).symm;obtain⟨R,hR⟩:∃R:Mx,R=putr A b (λj=>A b j+1*A a j):=⟨_,Z⟩;have e2:det n R=det n (putr (λi j=>R j i) b λj=>(λi j=>R j i) b j+1*(λi j=>R j i) a j):=by rw[ZU6 (A:=λi j=>R j i) hb ha (YU hne)];exact det_T.symm
 rw[e1,<-hR,e2,<-det_T (A:=putr (λi j=>R j i) b λj=>(λi j=>R j i) b j+1*(λi j=>R j i) a j)];refine Zl λi j _ _=>?_;have rv:∀r c,R r c=A r c+(if r=b then A a c else 0):=λr c=>by
  rw[hR];unfold putr;by_cases h:r=b
  ·rw[if_pos h,if_pos h,h];lia
  ·rw[if_neg h,if_neg h];lia
 unfold Zt5;show _=(putr (λi j=>R j i) b λj=>R j b+1*R j a) j i
 unfold putr;by_cases h:j=b
 ·rw[if_pos h,if_pos h,rv,rv,h];by_cases h2:i=b
  ·rw[if_pos h2,if_pos h2];lia
  ·rw[if_neg h2,if_neg h2];lia
 ·rw[if_neg h,if_neg h];show _=R i j
  rw[rv];lia
theorem Zh12{w:Int}(ha:a<n+1)(hb:b<n+1)(hne:a≠b):det (n+1) (λi j=>A i j+w*(ind a b i*ind a b j))=det (n+1) A+w*det n (λi j=>Zt5 A a b (sk a i) (sk a j)):=by
 have e1:=ZR4 (A:=λi j=>A i j+w*(ind a b i*ind a b j)) ha hb hne;have e2:det (n+1) (Zt5 (λi j=>A i j+w*(ind a b i*ind a b j)) a b)=det (n+1) (λi j=>Zt5 A a b i j+w*((if i=a then 1 else 0)*(if j=a then 1 else 0))):=Zl λi j _ _=>by
  have na:¬a=b:=hne;have nb:¬b=a:=YU hne
  unfold Zt5 ind;by_cases hi:i=b
  ·subst hi;by_cases hj:j=i
   ·subst hj;simp[na,nb];lia
   ·by_cases hj2:j=a
    ·subst hj2;simp[na,nb,hj];lia
    ·simp[na,nb,hj,hj2]
  ·by_cases hi2:i=a
   ·subst hi2;by_cases hj:j=b
    ·subst hj;simp[na,nb];lia
    ·by_cases hj2:j=i
     ·subst hj2;simp[na,nb]
     ·simp[na,nb,hj,hj2]
   ·by_cases hj:j=b
    ·subst hj;simp[na,nb,hi,hi2]
    ·by_cases hj2:j=a
     ·subst hj2;simp[na,nb,hi,hi2]
     ·simp[na,nb,hi,hi2,hj,hj2]
 rw[<-e1,e2,ZT6 ha,ZR4 ha hb hne]
end My
namespace My
open PySem L2
noncomputable abbrev Ed:=Nat×Nat×Int
noncomputable def lapE:List Ed->Mx
 |[]=>λ_ _=>0
 |e::E=>λi j=>e.2.2*(ind e.1 e.2.1 i*ind e.1 e.2.1 j)+lapE E i j
theorem ZW2(E:List Ed)(e:Ed)(i j:Nat):lapE (E++[e]) i j=lapE E i j+e.2.2*(ind e.1 e.2.1 i*ind e.1 e.2.1 j):=by
 induction E with
 |nil=>show _+0=0+_;lia
 |cons f E ih=>
  show _+lapE (E++[e]) i j=_+lapE E i j+_;rw[ih];lia
noncomputable def edE(E:List Ed)(z:Int):Nat×Nat:=((E.getD z.toNat (0,0,0)).1,(E.getD z.toNat (0,0,0)).2.1)
noncomputable def wtE(E:List Ed):List Int->Int
 |[]=>1
 |z::T=>(E.getD z.toNat (0,0,0)).2.2*wtE E T
theorem ZI10(E:List Ed)(XW T:List Int):wtE E (XW++T)=wtE E XW*wtE E T:=by
 induction XW with
 |nil=>show _=1*_;rw[Y0t];rfl
 |cons z XW ih=>show _*wtE E (XW++T)=_*_*_;rw[ih,Y0g]
noncomputable def IsT(k:Nat)(E:List Ed)(T:List Int):Prop:=IsSet E.length T/\T.length=k/\∀i j,i<k+1->j<k+1->Conn (T.map<|edE E) i j
noncomputable def TW(k:Nat)(E:List Ed)(s:Int):Prop:=∃L:List (List Int),L.Nodup/\(∀T,T∈L↔IsT k E T)/\(L.map<|wtE E).sum=s
theorem ZA8{E:List Ed}{e:Ed}{z:Int}(h0:0<=z)(h1:z<(E.length:Int)):(E++[e]).getD z.toNat (0,0,0)=E.getD z.toNat (0,0,0):=by rw[Yy7,Yy7,Ys O]
theorem ZL4(E:List Ed)(e:Ed):(E++[e]).getD (E.length:Int).toNat (0,0,0)=e:=by rw[Yy7,YA,Yn<|Yy6 _,Y0R];rfl
theorem ZO9{e:Ed}(h:IsSet E.length T):T.map (edE (E++[e]))=T.map (edE E):=YN λz hz=>by
 have:=h.all z hz
 unfold edE;rw[ZA8 this.1 this.2]
theorem ZN12{e:Ed}(h:∀z∈T,0<=z/\z<(E.length:Int)):wtE (E++[e]) T=wtE E T:=by
 induction T with
 |nil=>rfl
 |cons z T ih=>
  have hz:=h z Yb;show _*wtE (E++[e]) T=_*wtE E T
  rw[ZA8 hz.1 hz.2,ih λy hy=>h y (Yc _ hy)]
theorem ZD7{e:Ed}(h:IsSet E.length T):IsT k (E++[e]) T↔IsT k E T:=by
 have h2:IsSet (E++[e]).length T:=by rw[Yy3];exact h.up
 constructor
 ·rintro⟨_,a,b⟩;exact⟨h,a,by rwa[ZO9 h]at b⟩
 ·rintro⟨_,a,b⟩;exact⟨h2,a,by rwa[ZO9 h]⟩
theorem Zi6{e:Ed}(h:IsSet E.length T):(T++[(E.length:Int)]).map (edE (E++[e]))=T.map (edE E)++[(e.1,e.2.1)]:=by
 rw[Yz,ZO9 h];show _++[edE (E++[e]) (E.length:Int)]=_
 unfold edE;rw[ZL4]
noncomputable def sh(a x:Nat):Nat:=if x<a then x else x-1
noncomputable def dl(a b x:Nat):Nat:=if x=a then sh a b else sh a x
theorem ZY12(a y:Nat):sh a (sk a y)=y:=by
 unfold sk;by_cases h:y<a
 ·rw[if_pos h];unfold sh;rw[if_pos h]
 ·rw[if_neg h];unfold sh;rw[if_neg O];lia
theorem ZJ13(a y:Nat):sk a y≠a:=by unfold sk;split<;>lia
theorem ZC12(h:x≠a):sk a (sh a x)=x:=by
 unfold sh;by_cases c:x<a
 ·rw[if_pos c];unfold sk;rw[if_pos c]
 ·rw[if_neg c];unfold sk;rw[if_neg O];lia
theorem ZH12(a b y:Nat):dl a b (sk a y)=y:=by unfold dl;rw[if_neg (ZJ13 a y),ZY12]
theorem Zb9(hx:x≠a)(hy:y≠a)(h:sh a x=sh a y):x=y:=by
 have:=YX (sk a) h
 rwa[ZC12 hx,ZC12 hy]at this
theorem ZE14(hne:b≠a)(h:dl a b x=dl a b y):x=y\/(x=a/\y=b)\/(x=b/\y=a):=by
 unfold dl at h;by_cases hx:x=a
 ·rw[if_pos hx]at h;by_cases hy:y=a
  ·exact .inl (hx.trans hy.symm)
  ·rw[if_neg hy]at h;exact .inr (.inl ⟨hx,(Zb9 hne hy h).symm⟩)
 ·rw[if_neg hx]at h;by_cases hy:y=a
  ·rw[if_pos hy]at h;exact .inr (.inr ⟨Zb9 hx hne h,hy⟩)
  ·rw[if_neg hy]at h;exact .inl (Zb9 hx hy h)
theorem ZF14(a b:Nat)(hne:b≠a):dl a b a=dl a b b:=by unfold dl;rw[if_pos Z,if_neg hne]
theorem Zu10{es:List (Nat×Nat)}{i j:Nat}(hne:b≠a)(c:Conn (es++[(a,b)]) i j):Conn (es.map λe=>(dl a b e.1,dl a b e.2)) (dl a b i) (dl a b j):=by
 induction c with
 |refl i=>exact .refl _
 |edge q=>
  rcases Yj.mp q with q|q
  ·exact .edge (Yt.mpr ⟨_,q,Z⟩)
  ·have e:=Yy2.mp q;injection e with e1 e2
   rw[e1,e2,ZF14 a b hne];exact .refl _
 |symm _ ih=>exact .symm ih
 |trans _ _ a b=>exact .trans a b
theorem Zt10{es:List (Nat×Nat)}{u v:Nat}(hne:b≠a)(c:Conn (es.map λe=>(dl a b e.1,dl a b e.2)) u v):∀i j,dl a b i=u->dl a b j=v->Conn (es++[(a,b)]) i j:=by
 have he:Conn (es++[(a,b)]) a b:=.edge B;have same:∀i j,dl a b i=dl a b j->Conn (es++[(a,b)]) i j:=λi j e=>by
  rcases ZE14 hne e with e|⟨e1,e2⟩|⟨e1,e2⟩
  ·rw[e];exact .refl _
  ·rwa[e1,e2]
  ·rw[e1,e2];exact he.symm
 induction c with
 |refl u=>exact λi j e1 e2=>same i j (e1.trans e2.symm)
 |edge q=>
  intro i j e1 e2;obtain⟨⟨x,y⟩,hxy,e⟩:=Yt.mp q;injection e with x1 x2
  exact(same i x<|e1.trans x1.symm).trans (.trans (.edge<|Yu _ hxy)<|same y j<|x2.trans e2.symm)
 |symm _ ih=>exact λi j e1 e2=>(ih j i e2 e1).symm
 |@trans x y z _ _ ih1 ih2=>exact λi j e1 e2=>(ih1 i (sk a y) e1<|ZH12 a b y).trans (ih2 (sk a y) j (ZH12 a b y) e2)
theorem ZI12{a b x k:Nat}(ha:a<k+1)(hb:b<k+2)(hne:b≠a)(hx:x<k+2):dl a b x<k+1:=by
 unfold dl sh;by_cases h:x=a
 ·rw[if_pos h];split<;>grind
 ·rw[if_neg h];split<;>grind
theorem cdl{a b k:Nat}{es:List (Nat×Nat)}(ha:a<k+1)(hb:b<k+2)(hne:b≠a):(∀i j,i<k+2->j<k+2->Conn (es++[(a,b)]) i j)↔∀i j,i<k+1->j<k+1->Conn (es.map λe=>(dl a b e.1,dl a b e.2)) i j:=by
 constructor
 ·intro c i j h1 h2
  have:=Zu10 hne (c (sk a i) (sk a j) (ZM5 h1)<|ZM5 h2)
  rwa[ZH12,ZH12]at this
 ·exact λc i j h1 h2=>Zt10 hne (c _ _ (ZI12 ha hb hne h1)<|ZI12 ha hb hne h2) i j Z rfl
noncomputable def drE(a b:Nat)(E:List Ed):List Ed:=E.map λe=>(dl a b e.1,dl a b e.2.1,e.2.2)
theorem ZE8{z:Int}(h0:0<=z)(h1:z<(E.length:Int)):(drE a b E).getD z.toNat (0,0,0)=(dl a b (E.getD z.toNat (0,0,0)).1,dl a b (E.getD z.toNat (0,0,0)).2.1,(E.getD z.toNat (0,0,0)).2.2):=by unfold drE;rw[Yy7,Yy7,Yg,Yy0 XT];rfl
theorem ZD8(h:IsSet E.length T):T.map (edE (drE a b E))=(T.map (edE E)).map λe=>(dl a b e.1,dl a b e.2):=by
 rw[Y2i];refine YN λz hz=>?_
 have:=h.all z hz
 unfold edE;rw[ZE8 this.1 this.2];rfl
theorem Zw13(h:∀z∈T,0<=z/\z<(E.length:Int)):wtE (drE a b E) T=wtE E T:=by
 induction T with
 |nil=>rfl
 |cons z T ih=>
  have hz:=h z Yb;show _*wtE (drE a b E) T=_*wtE E T
  rw[ZE8 hz.1 hz.2,ih λy hy=>h y (Yc _ hy)]
theorem ZS11{e:Ed}(ha:a<k+1)(hb:b<k+2)(hne:b≠a)(he:(e.1=a/\e.2.1=b)\/(e.1=b/\e.2.1=a))(h:IsSet E.length T):IsT (k+1) (E++[e]) (T++[(E.length:Int)])↔IsT k (drE a b E) T:=by
 have hl:(drE a b E).length=E.length:=Yy9 ..;have hc:(∀i j,i<k+2->j<k+2->Conn ((T++[(E.length:Int)]).map (edE<|E++[e])) i j)↔∀i j,i<k+2->j<k+2->Conn (T.map (edE E)++[(a,b)]) i j:=by
  rw[Zi6 h];rcases he with ⟨e1,e2⟩|⟨e1,e2⟩
  ·rw[e1,e2]
  ·rw[e1,e2];exact⟨λc i j x y=>ZV4<|c i j x y,λc i j x y=>ZV4<|c i j x y⟩
 have h2:IsSet (E++[e]).length (T++[(E.length:Int)]):=by rw[Yy3];exact h.snoc
 constructor
 ·rintro⟨_,x,y⟩;refine⟨hl▸h,?_,?_⟩
  ·rw[Yy3,Yw]at x;lia
  ·rw[ZD8 h];exact(cdl ha hb hne).mp (hc.mp y)
 ·rintro⟨_,x,y⟩;rw[ZD8 h]at y;refine⟨h2,by rw[Yy3,Yw,x],hc.mpr<|(cdl ha hb hne).mpr y⟩
theorem ZY9{E:List Ed}{e:Ed}(hE:∀f∈E,f.1<k+1/\f.2.1<k+1)(he:e.1=e.2.1)(h:IsSet E.length T):¬IsT k (E++[e]) (T++[(E.length:Int)]):=by
 rintro⟨_,x,y⟩;rw[Zi6 h]at y;have hcov:∀i j,i<k+1->j<k+1->Conn (T.map<|edE E) i j:=λi j hi hj=>(y i j hi hj).lift λf hf=>by
  rcases Yj.mp hf with q|q
  ·exact .edge q
  ·rw[Yy2.mp q,he];exact .refl _
 have hin:InN (k+1) (T.map<|edE E):=λf hf=>by
  obtain⟨z,hz,rfl⟩:=Yt.mp hf
  have:=h.all z hz
  unfold edE;rw[Yy7,Yy0 O];exact hE _ (Y0Z _)
 have h2:=(Zm1 O hin).mpr hcov;have h3:=ZM8 _ hin
 rw[Yy9]at h3;rw[Yy3,Yw]at x;lia
theorem ZO10{e:Ed}(hE:∀f∈E,f.1<k+1/\f.2.1<k+1)(he:e.1=e.2.1)(h:TW k E s):TW k (E++[e]) s:=by
 obtain⟨L,a1,a2,a3⟩:=h;refine⟨L,a1,λT=>?_,?_⟩
 ·rw[a2];constructor
  ·exact λh=>(ZD7 h.1).mpr h
  ·intro h;have hs:=h.1
   rw[Yy3]at hs;rcases ZP5 hs with c|⟨T',c,c2⟩
   ·exact(ZD7 c).mp h
   ·exact absurd (c▸h) (ZY9 hE he c2)
 ·rw[<-a3];refine YX List.sum (YN λT hT=>ZN12 ((a2 T).mp hT).1.all)
theorem ZT10(a b:List Int):(a++b).sum=a.sum+b.sum:=by
 induction a with
 |nil=>rw[Y1L,List.sum_nil,Y1V]
 |cons x a ih=>rw[Y1h,Y0E,Y0E,ih];lia
theorem Zh7(w:Int)(l:List (List Int))(f:List Int->Int):(l.map λT=>f T*w).sum=w*(l.map f).sum:=by
 induction l with
 |nil=>rw[List.map_nil,List.map_nil,List.sum_nil,Y0m]
 |cons x l ih=>rw[QP,QP,Y0E,Y0E,ih,Y1Q,Y0T]
theorem ZN10{e:Ed}(ha:a<k+1)(hb:b<k+2)(hne:b≠a)(he:(e.1=a/\e.2.1=b)\/(e.1=b/\e.2.1=a))(h1:TW (k+1) E s1)(h2:TW k (drE a b E) s2):TW (k+1) (E++[e]) (s1+e.2.2*s2):=by
 obtain⟨L,a1,a2,a3⟩:=h1;obtain⟨M,b1,b2,b3⟩:=h2;have hl:(drE a b E).length=E.length:=Yy9 ..
 refine⟨L++M.map (·++[(E.length:Int)]),Yy15.mpr ⟨a1,?_,λx hx y hy c=>?_⟩,λT=>?_,?_⟩
 ·exact List.Pairwise.map _ (λx y h c=>h<|List.append_cancel_right c) b1
 ·obtain⟨z,hz,c2⟩:=Yt.mp hy
  have:=((a2 x).mp hx).1.all (E.length:Int) (by rw[c,<-c2];simp)
  lia
 ·rw[Yj,a2,Yt];constructor
  ·rintro(h|⟨T',hT,rfl⟩)
   ·exact(ZD7 h.1).mpr h
   ·have:=(b2 T').mp hT
    exact(ZS11 ha hb hne he<|hl▸this.1).mpr this
  ·intro h;have hs:=h.1
   rw[Yy3]at hs;rcases ZP5 hs with c|⟨T',c,c2⟩
   ·exact .inl ((ZD7 c).mp h)
   ·exact .inr ⟨T',(b2 T').mpr ((ZS11 ha hb hne he c2).mp (c▸h)),c.symm⟩
 ·rw[Yz,ZT10,Y2i];have e1:L.map (wtE<|E++[e])=L.map (wtE E):=YN λT hT=>ZN12 ((a2 T).mp hT).1.all
  have e2:M.map (wtE (E++[e])∘(·++[(E.length:Int)]))=M.map λT=>wtE (drE a b E) T*e.2.2:=YN λT hT=>by
   have hs:IsSet E.length T:=hl▸((b2 T).mp hT).1;show wtE (E++[e]) (T++[(E.length:Int)])=_
   rw[ZI10,ZN12 hs.all,Zw13 hs.all];show _*(((E++[e]).getD (E.length:Int).toNat (0,0,0)).2.2*1)=_
   rw[ZL4,Y1p]
  rw[e1,e2,a3,Zh7,b3]
theorem ZU11(hne:b≠a):ind (dl a b u) (dl a b v) i=ind u v (sk a i)+(if sk a i=b then ind u v a else 0):=by
 have key:∀x:Nat,((if i=dl a b x then 1 else 0:Int))=(if sk a i=x then 1 else 0)+(if sk a i=b then (if a=x then 1 else 0) else 0):=λx=>by
  unfold dl;by_cases hx:x=a
  ·rw[if_pos hx,if_neg<|show ¬sk a i=x from hx▸ZJ13 a i,Y1V];by_cases h:sk a i=b
   ·rw[if_pos h,if_pos hx.symm,if_pos];rw[<-h,ZY12]
   ·rw[if_neg h,if_neg];intro e;exact h (by rw[e,ZC12 hne])
  ·rw[if_neg hx];have e2:(if sk a i=b then (if a=x then 1 else 0:Int) else 0)=0:=by rw[if_neg (YU hx)];split<;>rfl
   rw[e2,Y0x];by_cases h:sk a i=x
   ·rw[if_pos h,if_pos];rw[<-h,ZY12]
   ·rw[if_neg h,if_neg];intro e;exact h (by rw[e,ZC12 hx])
 unfold ind;rw[key u,key v];by_cases h:sk a i=b
 ·rw[if_pos h,if_pos h,if_pos h];lia
 ·rw[if_neg h,if_neg h,if_neg h];lia
theorem Zo8(hne:b≠a)(i j:Nat):∀E:List Ed,lapE (drE a b E) i j=Zt5 (lapE E) a b (sk a i) (sk a j)
 |[]=>by
  show(0:Int)=_;unfold Zt5 lapE;by_cases h:sk a i=b
  ·by_cases h2:sk a j=b
   ·rw[if_pos h,if_pos h2];rfl
   ·rw[if_pos h,if_neg h2];rfl
  ·by_cases h2:sk a j=b
   ·rw[if_neg h,if_pos h2];rfl
   ·rw[if_neg h,if_neg h2];rfl
 |e::E=>by
  have ih:=Zo8 hne i j E;show e.2.2*(ind (dl a b e.1) (dl a b e.2.1) i*ind (dl a b e.1) (dl a b e.2.1) j)+lapE (drE a b E) i j=_
  rw[ih,ZU11 hne,ZU11 hne];unfold Zt5;show _=(e.2.2*(ind e.1 e.2.1 (sk a i)*ind e.1 e.2.1 (sk a j))+lapE E (sk a i) (sk a j)+(if sk a i=b then e.2.2*(ind e.1 e.2.1 a*ind e.1 e.2.1 (sk a j))+lapE E a (sk a j) else 0))+(if sk a j=b then (e.2.2*(ind e.1 e.2.1 (sk a i)*ind e.1 e.2.1 a)+lapE E (sk a i) a)+(if sk a i=b then e.2.2*(ind e.1 e.2.1 a*ind e.1 e.2.1 a)+lapE E a a else 0) else 0)
  generalize ind e.1 e.2.1 (sk a i)=x;generalize ind e.1 e.2.1 (sk a j)=y;generalize ind e.1 e.2.1 a=z;generalize e.2.2=w;by_cases h:sk a i=b
  ·by_cases h2:sk a j=b
   ·simp only[if_pos h,if_pos h2,Y1Q,Y3a];lia
   ·simp only[if_pos h,if_neg h2,Y1Q,Y3a,Y0x,Y0m];lia
  ·by_cases h2:sk a j=b
   ·simp only[if_neg h,if_pos h2,Y1Q,Y3a,Y0x,Y2k];lia
   ·simp only[if_neg h,if_neg h2,Y0x]
theorem Zv6(u v i:Nat):ind v u i=- ind u v i:=by unfold ind;lia
theorem Zj12{e:Ed}(ha:a<k+1)(hb:b<k+2)(hne:b≠a)(he:(e.1=a/\e.2.1=b)\/(e.1=b/\e.2.1=a)):det (k+1) (lapE (E++[e]))=det (k+1) (lapE E)+e.2.2*det k (lapE (drE a b E)):=by
 have e1:det (k+1) (lapE<|E++[e])=det (k+1) (λi j=>lapE E i j+e.2.2*(ind a b i*ind a b j)):=Zl λi j _ _=>by
  rw[ZW2];rcases he with ⟨x,y⟩|⟨x,y⟩
  ·rw[x,y]
  ·rw[x,y,Zv6 a b i,Zv6 a b j,Int.neg_mul_neg]
 have e2:det k (lapE<|drE a b E)=det k (λi j=>Zt5 (lapE E) a b (sk a i)<|sk a j):=Zl λi j _ _=>Zo8 hne i j E;rw[e1,e2];by_cases hk:b<k+1
 ·exact Zh12 ha hk (YU hne)
 ·have e3:det (k+1) (λi j=>lapE E i j+e.2.2*(ind a b i*ind a b j))=det (k+1) (λi j=>lapE E i j+e.2.2*((if i=a then 1 else 0)*(if j=a then 1 else 0))):=Zl λi j hi hj=>by unfold ind;rw[if_neg (show ¬i=b by lia),if_neg (show ¬j=b by lia),Y2P,Y2P]
  have e4:det k (λi j=>Zt5 (lapE E) a b (sk a i)<|sk a j)=det k (λi j=>lapE E (sk a i)<|sk a j):=Zl λi j hi hj=>by
   have h1:=ZM5 (j:=a) hi;have h2:=ZM5 (j:=a) hj
   unfold Zt5;rw[if_neg (show ¬sk a i=b by lia),if_neg (show ¬sk a j=b by lia),Y0x,Y0x]
  rw[e3,e4];exact ZT6 ha
theorem ZG4{e:Ed}(he:e.1=e.2.1):lapE (E++[e])=lapE E:=by
 funext i j
 rw[ZW2,he];unfold ind;rw[Int.sub_self,Y2k,Y0m,Y0x]
theorem Yz1:∀m k E,E.length=m->(∀e∈E,e.1<k+1/\e.2.1<k+1)->TW k E (det k (lapE E))
 |0,k,E,hm,_=>by
  obtain rfl:=YH.mp hm;cases k with
  |zero=>
   refine⟨[[]],B,λT=>?_,Z⟩;rw[Yy2];constructor
   ·rintro rfl;exact⟨IsSet.nil _,Z,λi j hi hj=>by
     have:i=j:=O
     rw[this];exact .refl j⟩
   ·intro h;exact YH.mp h.2.1
  |succ k=>
   refine⟨[],.nil,λT=>⟨λh=>(by cases h),λh=>?_⟩,?_⟩
   ·have h1:=h.1.len;have h2:=h.2.1
    rw[Y1M]at h1;lia
   ·exact(ZO6 (i:=0) O λj _=>rfl).symm
 |m+1,k,E,hm,hE=>by
  obtain⟨E',e,rfl⟩:∃E' e,E=E'++[e]:=⟨E.dropLast,E.getLast (λh=>by rw[h]at hm;cases hm),(Y2O _).symm⟩;have hm':E'.length=m:=by rw[Yy3]at hm;simpa using hm
  have hE':∀f∈E',f.1<k+1/\f.2.1<k+1:=λf hf=>hE f (Yu _ hf);have he:=hE e B
  have ih:=Yz1 m k E' hm' hE';by_cases hl:e.1=e.2.1
  ·rw[ZG4 hl];exact ZO10 hE' hl ih
  ·obtain⟨k',rfl⟩:∃k',k=k'+1:=⟨k-1,O⟩;obtain⟨a,b,ha,hb,hne,hab⟩:∃a b,a<k'+1/\b<k'+2/\b≠a/\((e.1=a/\e.2.1=b)\/(e.1=b/\e.2.1=a)):=by
    by_cases c:e.1<k'+1
    ·exact⟨e.1,e.2.1,c,he.2,λh=>hl h.symm,.inl ⟨Z,Z⟩⟩
    ·exact⟨e.2.1,e.1,O,he.1,hl,.inr ⟨Z,Z⟩⟩
   have ih2:=Yz1 m k' (drE a b E') (by unfold drE;rwa[Yy9]) λf hf=>by
    obtain⟨g,hg,rfl⟩:=Yt.mp hf
    have:=hE' g hg
    exact⟨ZI12 ha hb hne this.1,ZI12 ha hb hne this.2⟩
   rw[Zj12 ha hb hne hab];exact ZN10 ha hb hne hab ih ih2
noncomputable def ZY1(ps:List (Int×Int))(ws:List Int):List Ed:=List.zipWith (λp w=>(p.1.toNat,p.2.toNat,w)) ps ws
theorem Zr8(h1:1<=n)(hw:ws.length=ps.length):IsT (n-1).toNat (ZY1 ps ws) T↔Zo n ps T:=by
 have hl:(ZY1 ps ws).length=ps.length:=by unfold ZY1;rw[Y0e];grind
 have hm:IsSet ps.length T->T.map (edE<|ZY1 ps ws)=Za ps T:=λhs=>YN λz hz=>by
  have:=hs.all z hz
  unfold edE ZY1;rw[Yy7,Y0f,Yy0 O,Yy0 (show z.toNat<ws.length by lia),Yy7,Yy0 XT];rfl
 unfold IsT Zo;rw[hl];constructor
 ·rintro⟨a,b,c⟩;rw[hm a]at c;exact⟨a,O,λi j hi hj=>c i j O XR⟩
 ·rintro⟨a,b,c⟩;rw[hm a];exact⟨a,O,λi j hi hj=>c i j O O⟩
theorem ZH10(h:∀e∈E,e.2.2=1):∀{T:List Int},(∀z∈T,0<=z/\z<(E.length:Int))->wtE E T=1
 |[],_=>rfl
 |z::T,hb=>by
  have hz:=hb z Yb;show(E.getD z.toNat (0,0,0)).2.2*wtE E T=1
  rw[ZH10 h λy hy=>hb y<|Yc _ hy,Y1p,Yy7,Yy0 O];exact h _ (Y0Z _)
theorem Zz29{l:List (List Int)}{f:List Int->Int}(h:∀T∈l,f T=1):(l.map f).sum=(l.length:Int):=by
 induction l with
 |nil=>rfl
 |cons x l ih=>
  rw[QP,Y0E,ih λT hT=>h T<|Yc _ hT,h x Yb,Yq];lia
theorem Zz812(g:ZL n ps)(ws:List Int):∀e∈ZY1 ps ws,e.1<(n-1).toNat+1/\e.2.1<(n-1).toNat+1:=λe he=>by
 unfold ZY1 at he;obtain⟨i,hi⟩:=Y0v he;rw[Y0f]at hi;have g1:=g.1
 cases h1:ps[i]? with
 |none=>rw[h1]at hi;cases hi
 |some p=>
  cases h2:ws[i]? with
  |none=>rw[h1,h2]at hi;cases hi
  |some w=>
   rw[h1,h2]at hi;obtain rfl:=Yl hi;obtain⟨a,b,c,d⟩:=g.2.2.2 p (Yy8 h1);exact⟨by show p.1.toNat<_;grind,by show p.2.toNat<_;lia⟩
theorem Zz09(g:ZL n ps){L:List (List Int)}(hL:L.Nodup)(hm:∀l,l∈L↔Zo n ps l):det (n-1).toNat (lapE (ZY1 ps (List.replicate ps.length 1)))=(L.length:Int):=by
 have g1:=g.1;have hw:(List.replicate ps.length (1:Int)).length=ps.length:=Yx
 obtain⟨M,a1,a2,a3⟩:=Yz1 _ (n-1).toNat (ZY1 ps<|List.replicate ps.length 1) Z (Zz812 g _);have hl:(ZY1 ps<|List.replicate ps.length 1).length=ps.length:=by unfold ZY1;rw[Y0e,hw];grind
 have w1:∀e∈ZY1 ps (List.replicate ps.length (1:Int)),e.2.2=1:=λe he=>by
  unfold ZY1 at he;obtain⟨i,hi⟩:=Y0v he;rw[Y0f]at hi;cases h1:ps[i]? with
  |none=>rw[h1]at hi;cases hi
  |some p=>
   cases h2:(List.replicate ps.length (1:Int))[i]? with
   |none=>rw[h1,h2]at hi;cases hi
   |some w=>
    rw[h1,h2]at hi;obtain rfl:=Yl hi;exact Y1g (Yy8 h2)
 rw[<-a3,Zz29 λT hT=>ZH10 w1 ((a2 T).mp hT).1.all];have hp:M.Perm L:=(Yy30 a1 hL).mpr λl=>by rw[a2,hm,Zr8 g1 hw]
 rw[hp.length_eq]
end My
namespace L2
open PySem PySem.Spec PyProof.Rows
section
variable{X:Cx}
noncomputable def Zg14(K:PySem.W.Frag):V->V->Hp->VK->Prop:=λx y H Q=>∃p xs i v,x=.ref p/\y=.int i/\SqL K H p xs/\0<=i/\xs[i.toNat]?=some v/\Q v H
theorem Zz62(K:PySem.W.Frag)(hk:X.K=K:=by rfl):PGet X (Zg14 K):=by
 subst hk;intro pins s σ H o i ov iv Q I ro ri h;obtain⟨p,xs,j,z,rfl,rfl,hq,h0,he,q⟩:=h;cases ro;obtain⟨t,rfl⟩:=ri;obtain⟨its,r,pl,hz⟩:=I.list hq;obtain⟨w,ew,rw'⟩:=r.get he;have hl:=r.length
 have hn:=Zz14;have hlt:=(Yy4.mp he).1
 exact wpAny_getItem_list pl.isList h0 O (by simpa using ew) ⟨z,H,I,rw',q⟩
end
end L2
namespace My
open PySem L2
theorem Zz112{g:TG}{tb:TS}{D:Ends}(hxy:xs.length=ys.length)(Pv:Nat->St->Hp->Prop)(h0:Pv 0 σ H)(hl:∀i σ H,i<=xs.length->Pv i σ H->SqL K H a xs/\SqL K H b ys)
  (hs:∀(i:Nat) x y σ H (p:Addr),H p=none->xs[i]?=some x->ys[i]?=some y->Pv i σ H->g (.ref p) σ (upd H p<|.tup [x,y]) λσ2 H2=>tb {D with nx:=Pv<|i+1,ct:=Pv<|i+1,bk:=D.nx} σ2 H2)(hd:∀σ H,Pv xs.length σ H->D.nx σ H):
  ∃W:Nat->Nat->St->Hp->Prop,(∃m,W 0 m σ H)/\∀i m σ H,W i m σ H->
   ((Itz K a b).stop i H/\D.nx σ H)\/((Itz K a b).go i H/\∃N:St->Hp->Prop,(∀σ' H',N σ' H'->∃m',m'<m/\W (i+1) m' σ' H')/\∀x H',(Itz K a b).yld i H x H'->g x σ H' λσ2 H2=>tb {D with nx:=N,ct:=N,bk:=D.nx} σ2 H2):=by
 refine⟨λi m σ H=>m=xs.length-i/\i<=xs.length/\Pv i σ H,⟨xs.length,B,Yr _,h0⟩,?_⟩;rintro i m σ H ⟨rfl,hi,p⟩;obtain⟨q,q2⟩:=hl i σ H hi p;by_cases hlt:i<xs.length
 ·refine .inr ⟨⟨xs,ys,xs[i],ys[i]'(by lia),q,q2,by simp[hlt],Yy0 XT⟩,Pv<|i+1,λσ' H' p'=>⟨xs.length-(i+1),XR,Z,hlt,p'⟩,λx H' ⟨T,u,v,hT,ex,eH,hu,hv⟩=>?_⟩;subst ex eH;exact hs i u v σ H T hT (hu xs q) (hv ys q2) p
 ·have e:i=xs.length:=O;subst e;exact .inl ⟨⟨xs,ys,q,q2,.inl<|Yy6 _⟩,hd σ H p⟩
structure TabAt (H0:Hp) (r:Addr) (n:Nat) (H:Hp) (ys:List V) (L:List (List Int)):Prop where
 tab:H r=some (.lst ys)
 rows:Bears (LiV r H) ys L
 len:L.length=n
 all:∀l∈L,l.length=n
 nd:ys.Nodup
 new:∀A,V.ref A∈ys->H0 A=none
theorem TabAt.same(s:Same H H')(h:TabAt H0 r n H ys L):TabAt H0 r n H' ys L:=⟨s _ _ h.tab,h.rows.imp λ_ _ q=>q.same s,h.len,h.all,h.nd,h.new⟩
theorem TabAt.at(h:TabAt H0 r n H ys L){i:Nat}(hi:i<n):∃A l,ys[i]?=some (.ref A)/\L[i]?=some l/\H A=some (.lst (IL l))/\l.length=n/\H0 A=none/\A≠r:=by have hl:=h.len;obtain⟨l,e⟩:∃l,L[i]?=some l:=⟨_,Yy0 O⟩;obtain⟨v,e1,A,rfl,e2,e3⟩:=h.rows.2 i l e;exact⟨A,l,e1,e,e2,h.all l<|Yy8 e,h.new A<|Yy8 e1,e3⟩
theorem TabAt.put(h:TabAt H0 r n H ys L){l l':List Int}(e1:ys[i]?=some (.ref A))(e2:L[i]?=some l)(e3:A≠r)(hl:l'.length=n):TabAt H0 r n (upd H A (.lst (IL l'))) ys (L.set i l'):=by
 have hi:=(Yy4.mp e2).1;have hil:=(Yy4.mp e1).1
 refine⟨by rw[Zd (YU e3)];exact h.tab,⟨by rw[Y0i];exact h.rows.1,λj m em=>?_⟩,by rw[Y0i];exact h.len,λm hm=>?_,h.nd,h.new⟩
 ·rw[Y0l]at em;by_cases c:i=j
  ·subst c;rw[if_pos Z,if_pos hi]at em;obtain rfl:=Yl em;exact⟨_,e1,A,Z,Zz1,e3⟩
  ·rw[if_neg c]at em;obtain⟨v,f1,XU,rfl,f2,f3⟩:=h.rows.2 j m em;refine⟨_,f1,XU,Z,?_,f3⟩;rw[Zd]
   ·exact f2
   ·intro e;rw[e]at f1;exact c (ZT2 h.nd e1 f1)
 ·rcases List.mem_or_eq_of_mem_set hm with e|e
  ·exact h.all m e
  ·rwa[e]
theorem Zz212{L:List (List Int)}{l:List Int}(hi:L[i]?=some l)(hj:j<l.length)(a b:Nat):fnL (L.set i (l.set j x)) a b=if a=i/\b=j then x else fnL L a b:=by
 have hil:=(Yy4.mp hi).1;unfold fnL;by_cases ha:a=i
 ·subst ha;have e1:(L.set a<|l.set j x).getD a []=l.set j x:=by rw[Yy7,Y0l,if_pos Z,if_pos hil];rfl
  have e2:L.getD a []=l:=by rw[Yy7,hi];rfl
  rw[e1,e2];by_cases hb:b=j
  ·subst hb;rw[if_pos ⟨Z,Z⟩,Yy7,Y0l,if_pos Z,if_pos hj];rfl
  ·rw[if_neg λh=>hb h.2,Yy7,Y0l,if_neg<|YU hb,<-Yy7]
 ·have e1:(L.set i<|l.set j x).getD a []=L.getD a []:=by rw[Yy7,Yy7,Y0l,if_neg (YU ha)]
  rw[e1,if_neg λh=>ha h.1]
theorem four{A:Mx}{u v:Nat}{w:Int}(hne:u≠v)(a b:Nat){XU C D E:Mx}(h1:∀a b,XU a b=if a=u/\b=u then A u u+w else A a b)(h2:∀a b,C a b=if a=v/\b=v then XU v v+w else XU a b)(h3:∀a b,D a b=if a=u/\b=v then C u v-w else C a b)(h4:∀a b,E a b=if a=v/\b=u then D v u-w else D a b):E a b=A a b+w*(ind u v a*ind u v b):=by
 have nv:¬v=u:=YU hne;unfold ind;by_cases x1:a=u
 ·subst x1;by_cases y1:b=a
  ·subst y1;simp[h4,h3,h2,h1,hne,nv]
  ·by_cases y2:b=v
   ·subst y2;simp[h4,h3,h2,h1,hne,nv];lia
   ·simp[h4,h3,h2,h1,hne,nv,y1,y2]
 ·by_cases x2:a=v
  ·subst x2;by_cases y1:b=u
   ·subst y1;simp[h4,h3,h2,h1,hne,nv];omega
   ·by_cases y2:b=a
    ·subst y2;simp[h4,h3,h2,h1,hne,nv]
    ·simp[h4,h3,h2,h1,hne,nv,y1,y2]
  ·simp[h4,h3,h2,h1,hne,nv,x1,x2]
theorem Zj10{ps:List (Int×Int)}{ws:List Int}{p:Int×Int}{w:Int}(hp:ps[i]?=some p)(hw:ws[i]?=some w):ZY1 (ps.take (i+1)) (ws.take (i+1))=ZY1 (ps.take i) (ws.take i)++[(p.1.toNat,p.2.toNat,w)]:=by
 have h1:=(Yy4.mp hp).1;have h2:=(Yy4.mp hw).1
 unfold ZY1;rw[YD,YD,hp,hw];rw[List.zipWith_append (by rw[Yp,Yp];grind)];rfl
end My
namespace L2
open PySem
noncomputable def Ris(t:SetTable):Prop:=t.place.toList.Pairwise (·<·)
theorem Zz25{xs:Array Nat}(h:xs.toList.Pairwise (·<·)){i k a b:Nat}(hik:i<k)(ha:xs[i]?=some a)(hb:xs[k]?=some b):a<b:=by rw[<-Yy01]at ha hb;obtain⟨h1,e1⟩:=Yy4.mp ha;obtain⟨h2,e2⟩:=Yy4.mp hb;rw[<-e1,<-e2];exact Y0M.mp h i k h1 h2 hik
theorem Zb3(h:xs.toList.Pairwise (·<·)):∀f lo hi,hi-lo<=f->lo<=hi->hi<=xs.size->(∀i v,xs[i]?=some v->i<lo->v<j)->(∀i v,xs[i]?=some v->hi<=i->j<=v)->
  SetTable.below.go xs j f lo hi<=xs.size/\∀i v,xs[i]?=some v->(i<SetTable.below.go xs j f lo hi↔v<j)
 |0,lo,hi,hf,hl,hs,a,b=>by
  have e:lo=hi:=XR;unfold SetTable.below.go;refine⟨O,λi v hv=>⟨a i v hv,λhvj=>Nat.lt_of_not_le λhc=>?_⟩⟩
  have:=b i v hv O
  lia
 |f+1,lo,hi,hf,hl,hs,a,b=>by
  unfold SetTable.below.go;by_cases c:lo<hi
  ·rw[if_pos c];dsimp only;obtain⟨m,hm⟩:∃m,xs[(lo+hi)/2]?=some m:=⟨_,YF O⟩;have em:xs.getD ((lo+hi)/2) j=m:=by rw[Y0z,hm];rfl
   rw[em];by_cases d:m<j
   ·rw[if_pos d];refine Zb3 h f _ hi XR O hs (λi v hv hi2=>?_) b;by_cases e:i=(lo+hi)/2
    ·rw[e,hm]at hv;exact Yl hv▸d
    ·have:=Zz25 h (show i<(lo+hi)/2 by lia) hv hm
     lia
   ·rw[if_neg d];refine Zb3 h f lo _ XR O O a λi v hv hi2=>?_;by_cases e:i=(lo+hi)/2
    ·rw[e,hm]at hv
     have:=Yl hv
     lia
    ·have:=Zz25 h (show(lo+hi)/2<i by lia) hm hv
     lia
  ·rw[if_neg c];refine⟨XR,λi v hv=>⟨a i v hv,λhvj=>Nat.lt_of_not_le λhc=>?_⟩⟩
   have:=b i v hv O
   lia
theorem ZD1(h:xs.toList.Pairwise (·<·))(j:Nat):SetTable.below xs j<=xs.size/\∀i v,xs[i]?=some v->(i<SetTable.below xs j↔v<j):=
 Zb3 h xs.size 0 xs.size O (Yr _) (Yy6 _) (λi v _ h=>absurd h<|Yy00 _) λi v hv hi=>by rw[Y1v hi]at hv;cases hv
theorem Zw10(h:xs.toList.Pairwise (·<·)){i v:Nat}(hv:xs[i]?=some v):SetTable.below xs v=i:=by
 obtain⟨h1,h2⟩:=ZD1 h v;have a:¬i<SetTable.below xs v:=λq=>by have:=(h2 i v hv).mp q;lia
 refine Nat.le_antisymm O (Y1E λq=>?_);have hlt:=(Yy13.mp hv).1
 obtain⟨u,hu⟩:∃u,xs[SetTable.below xs v]?=some u:=⟨_,YF O⟩;have b:=Zz25 h q hu hv
 have:=(h2 _ u hu).mpr b
 lia
theorem Zz77(h:xs.toList.Pairwise (·<·)){i v:Nat}(hv:xs[i]?=some v):SetTable.below xs (v+1)=i+1:=by
 obtain⟨h1,h2⟩:=ZD1 h (v+1);have a:=(h2 i v hv).mpr (Y0d v)
 refine Nat.le_antisymm (Y1E λq=>?_) a;obtain⟨u,hu⟩:∃u,xs[i+1]?=some u:=⟨_,YF O⟩;have b:=(h2 _ u hu).mp q
 have:=Zz25 h (Y0d i) hv hu
 lia
theorem Zz67(h:xs.toList.Pairwise (·<·)):SetTable.below xs 0=0:=by obtain⟨h1,h2⟩:=ZD1 h 0;refine Nat.le_zero.mp (Y1E λq=>?_);obtain⟨u,hu⟩:∃u,xs[0]?=some u:=⟨_,YF O⟩;exact Yy00 _ ((h2 _ u hu).mp q)
noncomputable def Zo5(t:SetTable)(j:Nat):Prop:=t.place[SetTable.below t.place j]?≠some j
theorem Zz511(h:Ris t)(hn:Zo5 t j):Ris (t.put j).1:=by
 obtain⟨h1,h2⟩:=ZD1 h j;have up:∀i v,t.place[i]?=some v->SetTable.below t.place j<=i->j<v:=λi v hv hi=>by
  have a:¬v<j:=λq=>by have:=(h2 i v hv).mpr q;lia
  have b:v≠j:=λe=>hn (by rw[e]at hv;rwa[Zw10 h hv]);lia
 show(SetTable.insertAt t.place (SetTable.below t.place j) j).toList.Pairwise (·<·);rw[SetTable.toList_insertAt];have dn:∀x∈t.place.toList.take (SetTable.below t.place j),x<j:=λx hx=>by
  obtain⟨i,hi⟩:=Y0v hx;rw[Y2t]at hi;split at hi
  ·rename_i q;rw[Yy01]at hi;exact(h2 i x hi).mp q
  ·cases hi
 have ub:∀x∈t.place.toList.drop (SetTable.below t.place j),j<x:=λx hx=>by obtain⟨i,hi⟩:=Y0v hx;rw[Y2u,Yy01]at hi;exact up _ x hi (Y2M _ _)
 refine Y0u.mpr ⟨Y3w (List.take_sublist _ _) h,Y0s.mpr ⟨ub,Y3w (List.drop_sublist _ _) h⟩,λa ha b hb=>?_⟩;rcases Ye.mp hb with e|e
 ·rw[e];exact dn a ha
 ·exact Nat.lt_trans (dn a ha) (ub b e)
theorem Zj3(h:t.slot j=.empty\/t.slot j=.dummy):Zo5 t j:=λe=>by
 have e2:t.slot j=.live (SetTable.below t.place j):=by unfold SetTable.slot;dsimp only;rw[if_pos (by rw[e];simp)]
 rw[e2]at h;rcases h with h|h<;>cases h
theorem Zg2{f:Nat->Int}:∀n p j d,(∀e,p.dummy=some e->Zo5 t e)->SetTable.probe.go t f h n p=some (.empty j d)->Zo5 t j/\∀e,d=some e->Zo5 t e
 |0,p,j,d,_,h=>by cases h
 |n+1,p,j,d,hp,h=>by
  have adv:∀q:SetTable.Probe,(t.advance q).dummy=q.dummy:=λq=>by unfold SetTable.advance;split<;>rfl
  unfold SetTable.probe.go at h;split at h
  ·rename_i hs;cases h;exact⟨Zj3<|.inl hs,hp⟩
  ·rename_i hs;exact Zg2 n _ j d (λe he=>by rw[adv]at he;cases he;exact Zj3<|.inr hs) h
  ·split at h
   ·cases h
   ·exact Zg2 n _ j d (λe he=>hp e<|by rwa[adv]at he) h
theorem ZO7{b:Bool}(e:t.freeSlot h=some (s,b)):Zo5 t s:=by
 unfold SetTable.freeSlot at e;split at e
 ·rename_i j d hp;obtain⟨a1,a2⟩:=Zg2 _ _ j d (λe he=>by cases he) hp;have e1:=YX Prod.fst (Yl e)
  dsimp only at e1;rw[<-e1];cases d with
  |none=>exact a1
  |some x=>exact a2 x rfl
 ·cases e
theorem Zz42(t:SetTable)(n:Nat):Ris (t.standIn n):=by show(Array.range n).toList.Pairwise (·<·);rw[Array.toList_range];exact Y1t
theorem Zz611(h:Ris t)(es:Array (Int×Value))(k:Int)(x:Value):Ris (layNew t es k x).2.1/\(layNew t es k x).2.1.led=t.led:=by
 unfold layNew;split
 ·rename_i s b e;dsimp only;unfold SetTable.orStandIn;split
  ·exact⟨Zz511 h<|ZO7 e,Z⟩
  ·exact⟨Zz42 _ _,Z⟩
 ·exact⟨Zz42 _ _,Z⟩
theorem Zm7(h:Ris t)(es:Array (Int×Value))(n:Nat):Ris (relayAll t es n).2.1/\(relayAll t es n).2.1.led=t.led:=by
 unfold relayAll;split
 ·rename_i t' order e;dsimp only;split
  ·unfold SetTable.relaid SetTable.laid at e;cases ho:SetTable.layClean (SetTable.sizeAbove n-1) (es.map (·.1)) with
   |none=>rw[ho]at e;cases e
   |some owner=>
    rw[ho]at e;have e1:=YX Prod.fst (Yl e)
    dsimp only at e1;rw[<-e1];refine⟨?_,Z⟩;show(List.map _<|List.filterMap _ _).toArray.toList.Pairwise (·<·)
    rw[List.toList_toArray,Y2A,List.pairwise_filterMap];refine Y1t.imp λ{a b} hab x hx y hy=>?_;have ex:x.1=a:=by
     cases q:owner.getD a none with
     |none=>rw[q]at hx;cases hx
     |some z=>rw[q]at hx;cases hx;rfl
    have ey:y.1=b:=by
     cases q:owner.getD b none with
     |none=>rw[q]at hy;cases hy
     |some z=>rw[q]at hy;cases hy;rfl
    rwa[ex,ey]
  ·exact⟨Zz42 _ _,Z⟩
 ·exact⟨Zz42 _ _,Z⟩
end L2
namespace L2
open PySem PySem.Spec PyProof.Rows
noncomputable def SetR(P:Program)(w:World)(h:Heap)(a:Addr)(led:Bool)(XW:Int->Bool)(n:Nat):Prop:=
 ∃o es ep t,h.get? a=some o/\o.ExactSet/\o.data=.set es ep t/\ElemsOf (intKind P w) es.toList/\(∀z,XW z=true↔∃y∈es.toList,(intKind P w).is z y.2=true)/\es.size<scanBound/\t.fits es.size=true/\es.size=n/\Ris t/\t.led=led
theorem SetR.at{XW:Int->Bool}(q:SetR P w h a led XW n)(k:∀o,h.get? a=some o->h'.get? a=some o):SetR P w h' a led XW n:=
 let ⟨o,es,ep,t,ho,r⟩:=q
 ⟨o,es,ep,t,k o ho,r⟩
section
variable{prog:Program}{w:World}{A:Around}{E:Value->Shared->Prop}{s:Shared}
theorem Zl3{h:Heap}{o:Obj}{es:Array (Int×Value)}{ep:Nat}{t:SetTable}(ho:h.get? a=some o)(hx:o.ExactSet)(hd:o.data=.set es ep t)(fs:Array (Int×Value))(u:SetTable):
  (h.update a<|Obj.putSet fs u).get? a=some {o with data:=.set fs (ep+1) u}/\({o with data:=.set fs (ep+1) u}:Obj).ExactSet:=by have q:=Yy02 (Obj.putSet fs u) ho (by rw[putSet_of fs u hd];rfl);rw[putSet_of fs u hd]at q;exact⟨q,hx⟩
theorem ZB10{gv:Bool->Sem Unit}(hgv:∀b s1 R,R () s1->wpAny (model prog w) A (gv b) R E s1)
 {o:Obj}{es fs:Array (Int×Value)}{ep:Nat}{t u:SetTable}(ho:s.heap.get? a=some o)(hx:o.ExactSet)(hd:o.data=.set es ep t)
  {XW:Int->Bool}(he:ElemsOf (intKind prog w) fs.toList)(hm:∀z,XW z=true↔∃y∈fs.toList,(intKind prog w).is z y.2=true)(hb:fs.size<scanBound)(hf:u.fits fs.size=true)(hr:Ris u){dm:Bool}{R:Option Bool->Shared->Prop}
  (k:∀h',Heap.SameBut a s.heap h'->SetR prog w h' a u.led XW fs.size->R (some true) {s with heap:=h'}):
  wpAny (model prog w) A (do
   storeSet a fs u
   if (!dm&&u.tooFull)=true then do
    gv (relayAll u fs<|SetTable.grown fs.size).2.2
    storeSet a (relayAll u fs<|SetTable.grown fs.size).1 (relayAll u fs<|SetTable.grown fs.size).2.1
    pure (some true)
   else pure (some true)) R E s:=by
 obtain⟨h1,x1⟩:=Zl3 ho hx hd fs u;have b1:=Yy09 s.heap a (Obj.putSet fs u)
 refine Yy1 (wpAny_storeSet_of ho hd ?_<|fits_of_scanBound hb);by_cases c:(!dm&&u.tooFull)=true
 ·rw[if_pos c];have p:=relayAll_perm u fs (SetTable.grown fs.size)
  have f:=relayAll_fits u fs (SetTable.grown fs.size);obtain⟨r,l⟩:=Zm7 hr fs (SetTable.grown fs.size);generalize relayAll u fs (SetTable.grown fs.size)=XZ at p f r l ⊢;obtain⟨gs,v,gave⟩:=XZ;dsimp only at p f r l ⊢;have ez:gs.size=fs.size:=by rw[<-YI,p.length_eq,YI]
  obtain⟨h2,x2⟩:=Zl3 h1 x1 Z gs v;refine Yy1 (hgv _ _ _<|Yy1<|wpAny_storeSet_of h1 Z (Yh ?_)<|fits_of_scanBound<|by rwa[ez]);exact k _ (b1.trans<|Yy09 _ a _) ⟨_,gs,_,v,h2,x2,Z,he.perm p,λz=>(hm z).trans ⟨λzz=>by obtain⟨y,hy,q⟩:=zz;exact⟨y,p.mem_iff.mpr hy,q⟩,λzz=>by obtain⟨y,hy,q⟩:=zz;exact⟨y,p.mem_iff.mp hy,q⟩⟩,by rw[ez];exact hb,f,ez,r,l⟩
 ·rw[if_neg c];exact Yh (k _ b1 ⟨_,fs,_,u,h1,x1,Z,he,hm,hb,hf,Z,hr,Z⟩)
theorem Zy12{XW:Int->Bool}{z:Int}{x:Value}{R:Bool->Shared->Prop}(hz:(intKind prog w).is z x=true)(hsc:x.scannable=true)(hS:SetR prog w s.heap a led XW n)(room:n+1<scanBound)
  (k:∀h',Heap.SameBut a s.heap h'->SetR prog w h' a led (λy=>XW y||decide (y=z)) (if XW z then n else n+1)->R (!XW z) {s with heap:=h'}):
  wpAny (model prog w) A (setAddHashed a x<|(intKind prog w).hash z) R E s:=by
 obtain⟨o,es,ep,t,ho,hx,hd,he,hm,hb,hf,hn,hr,hl⟩:=hS;unfold setAddHashed setAddHashedIn;refine Y1k (Yy1<|Y1j ho hd hf ?_);dsimp only;rw[if_pos (byScan_of hsc hb he)];unfold setAddByScan;refine Yy1 (Yy1<|Y2E<|Yy1<|wpAny_setScan_of hz ho hd hf he ?_);cases hw:List.findIdx? (λy=>(intKind prog w).is z y.2) es.toList with
 |some j=>
  obtain⟨j1,j2,_⟩:=List.findIdx?_eq_some_iff_getElem.mp hw;have yes:XW z=true:=(hm z).mpr ⟨es.toList[j],Y0Z j1,j2⟩
  have fin:=k s.heap (Heap.SameBut.refl a s.heap) ⟨o,es,ep,t,ho,hx,hd,he,λy=>by rw[Bool.or_eq_true,decide_eq_true_eq,<-hm y];exact⟨λq=>q.elim id λq=>q▸yes,.inl⟩,hb,hf,by rw[yes];exact hn,hr,hl⟩
  rw[yes]at fin;dsimp only;exact Yh (Yh fin)
 |none=>
  have no:XW z=false:=Yy16.mpr λq=>by
   obtain⟨y,hy,hp⟩:=(hm z).mp q
   have:=List.findIdx?_eq_none_iff.mp hw y hy
   rw[hp]at this;cases this
  dsimp only;have p:=layNew_perm t es ((intKind prog w).hash z) x
  have f:=layNew_fits t es ((intKind prog w).hash z) x;obtain⟨r,l⟩:=Zz611 hr es ((intKind prog w).hash z) x;generalize layNew t es ((intKind prog w).hash z) x=XZ at p f r l ⊢;obtain⟨fs,u,dm,gave⟩:=XZ;dsimp only at p f r l ⊢;rw[Array.toList_push]at p;have ez:fs.size=n+1:=by rw[<-YI,p.length_eq,Yy3,YI,hn];rfl
  have gw:∀(b:Bool){s1:Shared}{R':Unit->Shared->Prop},R' () s1->wpAny (model prog w) A (match b with|true=>rule "set.scan.the-table-gave-way" | false=>pure ()) R' E s1:=λb s1 R' q=>by
   cases b
   ·exact Yh q
   ·exact Y2E q
  have fin:∀h',Heap.SameBut a s.heap h'->SetR prog w h' a led (λy=>XW y||decide (y=z)) fs.size->R true {s with heap:=h'}:=λh' q1 q2=>by have q:=k h' q1;rw[no]at q;rw[ez]at q2;exact q q2
  have he1:=(he.push hz hsc).perm p;have hm1:∀y,(XW y||decide (y=z))=true↔∃v∈fs.toList,(intKind prog w).is y v.2=true:=mem_push_iff hz hm p
  have hb1:fs.size<scanBound:=O;refine Yy1 (gw _ ?_);have tail:∀v:SetTable,v.fits fs.size=true->Ris v->v.led=led->wpAny (model prog w) A (do
    storeSet a fs v
    if (!dm&&v.tooFull)=true then do
     (match (relayAll v fs<|SetTable.grown fs.size).2.2 with|true=>rule "set.scan.the-table-gave-way" | false=>pure ())
     storeSet a (relayAll v fs<|SetTable.grown fs.size).1 (relayAll v fs<|SetTable.grown fs.size).2.1
     pure (some true)
    else pure (some true)) (λy s1=>wpAny (model prog w) A (match y with|some added=>pure added|none=>setAddHashedIn a x ((intKind prog w).hash z) 99999) R E s1) E s:=λv a1 a2 a3=>
   ZB10 (gv:=λb=>match b with|true=>rule "set.scan.the-table-gave-way" | false=>pure ()) (λb s1 R' q=>gw b q) ho hx hd he1 hm1 hb1 a1 a2 λh' q1 q2=>Yh (fin h' q1<|a3▸q2)
  split
  ·refine Yy1 ?_;rw[hashByValue_scannable 8 hsc];refine Yh ?_;split
   ·exact tail u f r (l.trans hl)
   ·exact tail _ (SetTable.fits_plain_off f) r (l.trans hl)
  ·refine Yy1 (Yh ?_);rw[if_pos Z];exact tail u f r (l.trans hl)
end
section
variable{prog:Program}{w:World}{A:Around}{R:Result->Shared->Prop}{I:Addr}{fp wr:List Addr}{G:Array GenState->Array GenState->Prop}{n:Nat}{P:Nat->Value->Prop}{St:Nat->Shared->Prop}
theorem Zo6(W:WalksS prog w A.in1 I fp wr G n P St)(b:Addr)(hbf:b∉fp)(val:Nat->Int)(hv:∀i v,P i v->∃t,v=.int (val i) t)(hn:n+1<scanBound):
  ∀k i s,n-i=k->i<=n->St i s->SetR prog w s.heap b led (λz=>(firstMet val i).any (· == z)) (firstMet val i).length->
   (∀s',Moved (b::wr) G s s'->SetR prog w s'.heap b led (λz=>(firstMet val n).any (· == z)) (firstMet val n).length->R (.ok<|.ret .none) s')->
   codeAny (model prog w) A (.builtin "set.update.loop" ⟨[.ref b,.ref I],[]⟩) R s
 |0,i,s,hk,hi,st,hS,q=>by
  have e:i=n:=XR;subst e;refine Y0Q F.entry_set_update_loop ?_;rw[Y2B Y2D _];show wpAny _ A.in1 (pyNext (.ref I) >>= _) _ _ s
  refine Yy1 (W.done s _ _ st λs1 m=>?_);show wpAny _ A.in1 (ret Value.none) _ _ s1
  exact Yh (q s1 (m.mono λc hc=>.tail _ hc)<|hS.at λo ho=>m.heap b o (λhc=>hbf<|W.sub _ hc) ho)
 |k+1,i,s,hk,hi,st,hS,q=>by
  have hlt:i<n:=XR;refine Y0Q F.entry_set_update_loop ?_;rw[Y2B Y2D _];show wpAny _ A.in1 (pyNext (.ref I) >>= _) _ _ s
  refine Yy1 (W.item i s _ _ hlt st λv s1 hP st1 m=>?_);obtain⟨t,rfl⟩:=hv i v hP;have hS1:=hS.at (h':=s1.heap) λo ho=>m.heap b o (λhc=>hbf<|W.sub _ hc) ho
  show wpAny _ A.in1 (holding [Value.int (val i) t] (setAdd b<|.int (val i) t) >>= _) _ _ s1;refine Yy1 (Y1k ?_);unfold setAdd;refine Y1k (Yy1<|(intKind prog w).pyHash (k:=val i) (intKind_is _ _ _ _) ?_);have fm:=firstMet_length_le val i
  refine Zy12 (s:={s1 with toks:=s1.toks+1}) (intKind_is _ _ _ _) Z hS1 O λh2 sb hS2=>?_;have hS3:SetR prog w h2 b led (λz=>(firstMet val<|i+1).any (· == z)) (firstMet val<|i+1).length:=by
   have e1:(λz=>(firstMet val<|i+1).any (· == z))=λy=>((firstMet val i).any (· == y)||decide (y=val i)):=funext λy=>by rw[Y2U,step_any]
   rwa[e1,Y2U,step_length]
  have kept:∀c o,c≠b->s1.heap.get? c=some o->h2.get? c=some o:=λc o hc e=>(sb.2 c hc).trans e;refine Yh ⟨plainId_quiet Y2D _,Zo6 W b hbf val hv hn k (i+1) _ XR hlt (W.frame _ s1 _ _ st1 (Y0W _) λc hc o e=>kept c o (λe'=>hbf<|e'▸hc) e) hS3 λs2 m2 hS4=>?_⟩;exact q s2 (Moved.trans W.gtrans ((m.mono λc hc=>.tail _ hc).then_heap (Y0W _) λc o hc e=>kept c o (λe'=>hc<|e'▸.head _) e) m2) hS4
end
section
variable{prog:Program}{w:World}{A:Around}{E:Value->Shared->Prop}{s:Shared}
noncomputable def Zw3 (w:World):Obj:={cls:=.type "set",dict:=none,data:=.set #[] 0 (.fresh 0 0<|!w.params.followText "set-order")}
theorem Zx11(a:Value){Q:Value->Shared->Prop}(k:Q (.ref s.heap.objs.size) {s with heap:=s.heap.push (Zw3 w)}):
  codeAny (model prog w) A (.call (.builtin "set.__new__") ⟨[.type "set",a],[]⟩) (wants Q E) s:=by
 refine codeAny_of_tree ?_;show wpAny _ A.in1 (checkBuiltinCall "set.__new__" ⟨[.type "set",a],[]⟩ >>= λ_=>again<|.builtin "set.__new__" ⟨[.type "set",a],[]⟩) _ _ s
 refine Yy1 (Y1A (F.newCall_set_1 a)<|Yh ⟨plainId_quiet F.plain_set_new _,Y0Q F.entry_set_new ?_⟩);rw[Y2B F.plain_set_new _];have hsub:=sub_set_self
 unfold Builtin.«set.__new__» Builtin.Frozenset.newClass;obtain⟨hp,g,d,tk,os⟩:=s;dsimp only
 wp_walk
 refine Y1r (Yh ?_);simp only[newObj];refine Yy1 (wpAny_alloc<|Yh<|Yh k)
theorem Zn7 (e:h.get? a=some (Zw3 w)):SetR prog w h a (!w.params.followText "set-order") (λz=>(firstMet (λ_=>0) 0).any (· == z)) 0:=by refine⟨_,#[],0,_,e,⟨Z,Z,Z⟩,Z,λy hy=>(by cases hy),λz=>⟨λq=>(by cases q),λzz=>by obtain⟨y,hy,_⟩:=zz;exact(by cases hy)⟩,J,by simp[SetTable.fits,SetTable.fresh,SetTable.fill],Z,.nil,Z⟩
theorem Zi9{h0:Heap}{Q:Value->Shared->Prop}(hh:A.handled=none)(hb0:h0.get? b=some (Zw3 w))(hl:h0.IsList l items)(hne:l≠b)(hi:IntsAre items.toList ns)(hn:items.size+1<scanBound)
  (k:∀h' tk,SetR prog w h' b (!w.params.followText "set-order") (λz=>(firstMet (λi=>ns.getD i 0) items.size).any (· == z)) (firstMet (λi=>ns.getD i 0) items.size).length->(∀c o,c≠b->h0.get? c=some o->h'.get? c=some o)->Q .none {s with heap:=h',toks:=tk}):
  wpAny (model prog w) A.in1 (Builtin.«set.__init__» ⟨[.ref b,.ref l],[]⟩) (λfin s'=>match fin with | .done f=>wants Q E (.ok f) s' | .again c'=>c'.quiet=true/\codeAny (model prog w) A c' (wants Q E) s') (λe s'=>wants Q E (.error e) s') {s with heap:=h0}:=by
 have hT:Shared.TypeIs {s with heap:=h0} (.ref b) "set":=⟨_,hb0,Z⟩;have hl0:=hl
 obtain⟨⟨ocls,odict,odata,oslots⟩,hol,hcl,nl,hdl⟩:=hl;simp only at hcl hdl;subst hcl hdl;have q1:=F.sub_list_set
 have q2:=F.sub_list_frozenset;have q3:(Value.type "list" == Value.type "dict")=false:=J
 unfold Zw3 at hb0;unfold Builtin.«set.__init__» noKeywords Builtin.Frozenset.updateFrom;generalize hPI:pyIter=PI
 wp_walk
 subst hPI;refine Y1H hl0 ?_;refine Yy1 (wpAny_runValue ?_);have ltl:l<h0.objs.size:=Yi hol
 have ltb:b<h0.objs.size:=Yi hb0;have bf:b∉[h0.objs.size,l]:=λq=>by
  rcases Ye.mp q with e|e
  ·exact Ym ltb e
  ·exact hne (Yy2.mp e).symm
 refine Zo6 ((Walks.list (A:=A.in1.in1) (by simp[hh]) _ l (Ym ltl) items).toS) b bf (led:=!w.params.followText "set-order") (λi=>ns.getD i 0) (λi v hv=>IntsAre.int_at hi i v<|by rw[Yy01];exact hv) hn (items.size-0) 0 _ O (Yr _)
  ⟨⟨_,Yk _ Z,Z,Z⟩,hl0.push _⟩ ?_ ?_
 ·exact Zn7 (Yy5 _ hb0)
 ·rintro⟨h',g',d',tk',os'⟩ m hS;have e1:g'=s.gens:=m.gens
  have e2:d'=s.drawn:=m.drawn;have e3:os'=s.os:=m.os
  subst e1 e2 e3;show wpAny _ _ _ _ _ _
  refine Yh ?_;show wpAny _ _ (ret Value.none) _ _ _
  refine Yh (k h' tk' hS λc o hc e=>m.heap c o (λq=>?_)<|Yy5 _ e);rcases Ye.mp q with e'|e'
  ·exact hc e'
  ·exact Ym (Yi e) (Yy2.mp e')
set_option maxRecDepth 100000 in
set_option maxHeartbeats 3000000 in
theorem ZZ10{Q:Value->Shared->Prop}(hh:A.handled=none)(hl:s.heap.IsList l items)(hi:IntsAre items.toList ns)(hn:items.size+1<scanBound)
  (k:∀h' tk,SetR prog w h' s.heap.objs.size (!w.params.followText "set-order") (λz=>(firstMet (λi=>ns.getD i 0) items.size).any (· == z)) (firstMet (λi=>ns.getD i 0) items.size).length->(∀c o,s.heap.get? c=some o->h'.get? c=some o)->Q (.ref s.heap.objs.size) {s with heap:=h',toks:=tk}):
  wpAny (model prog w) A (call (.type "set") [.ref l]) Q E s:=by
 obtain⟨c,tl,hmro⟩:=Y1C.mro;have a1:=Y1C.made
 have a2:=Y1C.sub;have a3:=Y1C.notType
 have a4:=Y1C.canCreate;have a5:=F.typeCall_set_1 (.ref l)
 refine wpAny_call (codeAny_of_tree ?_);show wpAny _ _ (callAny (.type "set") _) _ _ _
 refine Yh ⟨Y2b _ S,Y0Q F.entry_type_call ?_⟩;rw[Around.under_plain (weight_type_call_type "set" [.ref l] []) Z]
 repeat any_goals first|assumption|wp_step
 refine Y1B (Zx11 (.ref l) (E:=E) (Q:=λob s1=>ob=.ref s.heap.objs.size/\s1={s with heap:=s.heap.push (Zw3 w)}) ⟨Z,Z⟩) λr s1 hr=>?_
 match r,hr with
 | .error e,hr=>exact hr
 | .ok (.ret ob),hr=>
  obtain⟨rfl,rfl⟩:=hr;have hb0:(s.heap.push<|Zw3 w).get? s.heap.objs.size=some (Zw3 w):=Yk _ rfl
  have hT:Shared.TypeIs {s with heap:=s.heap.push (Zw3 w)} (.ref s.heap.objs.size) "set":=⟨_,hb0,Z⟩;have a6:=Y1C.init.lookup
  have a7:=Y1C.init.bind (.ref s.heap.objs.size)
  repeat any_goals first|assumption|wp_step
  have ltl:l<s.heap.objs.size:=by obtain⟨_,e,_⟩:=hl;exact Yi e
  refine Y1B (Y2y (R:=wants (λr s2=>r=.none/\Q (.ref s.heap.objs.size) s2) E) Y1C.init.plain F.entry_set_init<|check_set_init_1 hT<|Zi9 (A:=_) (s:=s) ?_ hb0 (hl.push _) (Ym ltl) hi hn λh' tk hS kp=>⟨Z,k h' tk hS λc o e=>kp c o (Ym<|Yi e)<|Yy5 _ e⟩) λr2 s2 hr2=>?_
  ·simp[hh]
  ·match r2,hr2 with
   | .error e,hr2=>exact hr2
   | .ok (.ret v),hr2=>
    obtain⟨rfl,q⟩:=hr2
    repeat any_goals first|assumption|wp_step
end
theorem ZN5:Manifest.owners.lookup (String.ofList ['r','o','t','a','r','e','t','i','_','t','e','s'].reverse)=some Manifest.sig_set_iterator:=by kernel_rfl
theorem si_next:PySem.Slot "set_iterator" "__next__" "set_iterator.__next__":=
 .of (owner:="set_iterator") (n:="__next__") (by rw[Y2v,Y1I];kernel_rfl) S S S
  (by first|exact .inl S|exact .inr S) (by rw[isSubtype_type];kernel_rfl)
theorem ZL2:entryFor table "set_iterator.__next__"=some Builtin.«set_iterator.__next__»:=entryFor_of_tree XQ
theorem ZM2 (a:Value):argsOk "set_iterator.__next__" ⟨[a],[]⟩:=by unfold argsOk;rw[signature?_of (id:="set_iterator.__next__") (n:=['_','_','t','x','e','n','_','_']) (o:=['r','o','t','a','r','e','t','i','_','t','e','s']) XQ ZN5];kernel_rfl
theorem Zz88:PySem.Slot "set_iterator" "__iter__" "set_iterator.__iter__":=
 .of (owner:="set_iterator") (n:="__iter__") (by rw[Y2v,Y1I];kernel_rfl) S S S
  (by first|exact .inl S|exact .inr S) (by rw[isSubtype_type];kernel_rfl)
theorem Za9 (a:Value):argsOk "set_iterator.__iter__" ⟨[a],[]⟩:=by unfold argsOk;rw[signature?_of (id:="set_iterator.__iter__") (n:=['_','_','r','e','t','i','_','_']) (o:=['r','o','t','a','r','e','t','i','_','t','e','s']) XQ ZN5];kernel_rfl
theorem Zz99:entryFor table "set_iterator.__iter__"=some Builtin.«dict_keyiterator.__iter__»:=
 entryFor_alias (id':="dict_keyiterator.__iter__") XQ (by first|rfl|decide +kernel|(unfold String.splitOn;simp +decide [String.splitOnAux])) S XQ
theorem Zz49:Manifest.owners.lookup (String.ofList ['t','e','s'].reverse)=some Manifest.sig_set:=by kernel_rfl
theorem Zz48:PySem.Slot "set" "__iter__" "set.__iter__":=
 .of (owner:="set") (n:="__iter__") (by rw[Y2v,Y1I];kernel_rfl) S S S
  (by first|exact .inl S|exact .inr S) (by rw[isSubtype_type];kernel_rfl)
theorem Zz69 (a:Value):argsOk "set.__iter__" ⟨[a],[]⟩:=by unfold argsOk;rw[signature?_of (id:="set.__iter__") (n:=['_','_','r','e','t','i','_','_']) (o:=['t','e','s']) XQ Zz49];kernel_rfl
theorem Zz59:entryFor table "set.__iter__"=some Builtin.«frozenset.__iter__»:=
 entryFor_alias (id':="frozenset.__iter__") XQ (by first|rfl|decide +kernel|(unfold String.splitOn;simp +decide [String.splitOnAux])) S XQ
noncomputable def IsSi (h:Heap) (I a:Addr) (f:Value) (i n ep:Nat):Prop:=∃o,h.get? I=some o/\o.cls=.type "set_iterator"/\o.data=.fields #[f,rawInt (i:Int),.ref a,rawInt (n:Int),rawInt (ep:Int)]
theorem IsSi.ty {s:Shared} (x:IsSi s.heap I a f i n ep):s.TypeIs (.ref I) "set_iterator":=by obtain⟨o,p,q,_⟩:=x;exact⟨o,p,q⟩
theorem IsSi.keep(x:IsSi h I a f i n ep)(e:∀o,h.get? I=some o->h'.get? I=some o):IsSi h' I a f i n ep:=by obtain⟨o,p,q⟩:=x;exact⟨o,e _ p,q⟩
noncomputable def SetIs(h:Heap)(a:Addr)(es:Array (Int×Value))(ep:Nat)(t:SetTable):Prop:=∃o,h.get? a=some o/\o.ExactSet/\o.data=.set es ep t
theorem SetIs.keep(x:SetIs h a es ep t)(e:∀o,h.get? a=some o->h'.get? a=some o):SetIs h' a es ep t:=by obtain⟨o,p,q⟩:=x;exact⟨o,e _ p,q⟩
section
variable{prog:Program}{w:World}{A:Around}{E:Value->Shared->Prop}{s:Shared}
theorem Zz47{Q:Nat->Shared->Prop}(hn:n≠0)(k:∀i,i<n->∀d,Q i {s with drawn:=d}):wpAny M A (choose src n) Q E s:=
 λΓ p _=>⟨hn,k _ (Nat.mod_lt _<|Nat.pos_of_ne_zero hn) _⟩
theorem Zs2{α:Type}:∀{l:List α}{i:Nat}{y:α},l[i]?=some y->(y::l.eraseIdx i).Perm l
 |[],_,_,h=>by simp at h
 |x::l,0,y,h=>by obtain rfl:x=y:=Yl h;exact .rfl
 |x::l,i+1,y,h=>(List.Perm.swap x y<|l.eraseIdx i).trans ((Zs2 (l:=l) (i:=i) h).cons x)
theorem ZM6{α:Type}:∀(n:Nat)(xs:List α)(s:Shared)(Q:List α->Shared->Prop),n=xs.length->(∀ys d,ys.Perm xs->Q ys {s with drawn:=d})->wpAny M A (drawOrder n xs) Q E s
 |0,xs,s,Q,h,k=>by have e:xs=[]:=YH.mp h.symm;subst e;exact Yh (k [] s.drawn .rfl)
 |n+1,[],s,Q,h,k=>by cases h
 |n+1,x::xs,s,Q,h,k=>by show wpAny M A (choose .order (x::xs).length >>= _) Q E s;refine Yy1 (Zz47 B λi hi d=>?_);obtain⟨y,hy⟩:∃y,(x::xs)[i]?=some y:=⟨_,Yy0 hi⟩;rw[hy];dsimp only;refine Yy1 (ZM6 n ((x::xs).eraseIdx i) _ _ (by rw[Yy32 hi];lia) λys d' hp=>Yh<|k (y::ys) d' ?_);exact(hp.cons y).trans (Zs2 hy)
theorem Zy4{α:Type}{f:Nat->Nat}:∀(n k:Nat)(l:List α)(out:Array α),n=l.length->(pickOrder.go f n k l out).toList.Perm (out.toList++l)
 |0,k,l,out,h=>by rw[YH.mp h.symm,Yy04];exact .rfl
 |n+1,k,l,out,h=>by have hi:f k%l.length<l.length:=Nat.mod_lt _ O;obtain⟨y,hy⟩:∃y,l[f k%l.length]?=some y:=⟨_,Yy0 hi⟩;unfold pickOrder.go;rw[hy];dsimp only;refine(Zy4 n (k+1) _ _<|by rw[Yy32 hi];lia).trans ?_;rw[Array.toList_push,Y0A];refine List.Perm.append_left _ ?_;exact Zs2 hy
theorem Zz78{Q:Value->Shared->Prop}(hr:IsSi s.heap I a f i n ep)(h:Q (.ref I) s):wpAny (model prog w) A (pyIter (.ref I)) Q E s:=by
 refine wpAny_pyIter_slot hr.ty Zz88 (Y0h Zz88 hr.ty Zz99 ?_<|Za9 _);show wpAny _ _ (ret<|.ref I) _ _ s
 exact Yh ⟨_,Z,"set_iterator",_,hr.ty,si_next.lookup,h⟩
noncomputable def Zp5(prog:Program)(w:World)(a:Addr)(es:Array (Int×Value))(ep:Nat)(t:SetTable)(ord:List Value)(sl:Nat->Nat):Prop:=
 ∀A E s i Q,SetIs s.heap a es ep t->i<=ord.length->Q ((ord[i]?).map λx=>(x,sl<|i+1)) s->wpAny (model prog w) A (setNext a (sl i) i ep) Q E s
theorem ZY10{sl:Nat->Nat}{i:Nat}{x:Value}{Q:Option Value->Shared->Prop}(hN:Zp5 prog w a es ep t ord sl)(hS:SetIs s.heap a es ep t)(hf:t.fits es.size=true)(hi:IsSi s.heap I a (rawInt (sl i:Nat)) i es.size ep)(hx:ord[i]?=some x)
  (k:∀h',IsSi h' I a (rawInt (sl (i+1):Nat)) (i+1) es.size ep->Heap.SameBut I s.heap h'->Q (some x) {s with heap:=h'}):wpAny (model prog w) A (pyNext<|.ref I) Q E s:=by
 obtain⟨o,ho,hc,hd⟩:=id hi;obtain⟨oa,hoa,hxa,hda⟩:=id hS;unfold pyNext;refine Yy1 (Y1X<|Y0a (name:=Str.ofString "__next__") hi.ty si_next<|Y0h si_next hi.ty ZL2 ?_<|ZM2 _);unfold Builtin.«set_iterator.__next__»;refine Yy1 (Y1A (a:=(Value.ref I,[])) Z ?_);dsimp only;refine Yy1 (Y2F ho hd ?_);dsimp only[rawInt];refine Yy1 (Y1q hoa hda hf ?_);rw[if_neg B];rw[YA,YA,YA];refine Yy1 (hN _ _ s i _ hS (Y1m (Yy4.mp hx).1) ?_);rw[hx];dsimp only[Option.map_some];refine Yy1 (Y0K ho hd B ?_);have ho2:=Yy02 (Obj.mapFields λvs=>vs.setIfInBounds 0<|rawInt (sl (i+1):Nat)) ho (Y0U<|YV hd _)
 refine Yy1 (Y0K ho2 (YV hd _) B ?_);refine Yh ⟨x,Z,Yh<|k _ ⟨_,Yy02 _ ho2<|Y0U<|YV (YV hd _) _,?_,?_⟩<|(Yy09 ..).trans (Yy09 ..)⟩
 ·rwa[Y2d,Y2d]
 ·rw[YV (YV hd _)];simp;rfl
theorem ZX12{sl:Nat->Nat}{Q:Option Value->Shared->Prop}(hh:A.handled=none)(hN:Zp5 prog w a es ep t ord sl)(hS:SetIs s.heap a es ep t)(hf:t.fits es.size=true)(hi:IsSi s.heap I a (rawInt (sl ord.length:Nat)) ord.length es.size ep)
  (k:∀h',Heap.ExtBut I s.heap h'->Q none {s with heap:=h'}):wpAny (model prog w) A (pyNext<|.ref I) Q E s:=by
 obtain⟨o,ho,hc,hd⟩:=id hi;obtain⟨oa,hoa,hxa,hda⟩:=id hS;unfold pyNext;refine Yy1 (Y1X<|Y0a (name:=Str.ofString "__next__") hi.ty si_next<|Y0h si_next hi.ty ZL2 ?_<|ZM2 _);unfold Builtin.«set_iterator.__next__»;refine Yy1 (Y1A (a:=(Value.ref I,[])) Z ?_);dsimp only;refine Yy1 (Y2F ho hd ?_);dsimp only[rawInt];refine Yy1 (Y1q hoa hda hf ?_);rw[if_neg B];rw[YA,YA,YA];refine Yy1 (hN _ _ s ord.length _ hS (Yy6 _) ?_);rw[YQ (Yy6 _)];dsimp only[Option.map_none];refine Yy1 (Y0K ho hd B ?_);show wpAny _ _ (newExc (.type "StopIteration") [] >>= _) _ _ _
 refine Yy1 ?_;simp only[newExc,newTuple];refine Yy1 (Y0c ?_<|by size_fits);refine Yy1 (m:=firstArgMember _ _) (Y1A (a:=Value.none) (by first|rfl|(simp only[firstArgMember];rfl)) ?_)
 refine Y0c ?_ (by size_fits);simp only[raiseNew];refine Yy1 (wpAny_handled ?_);rw[show A.in1.handled=none from hh];refine Yy1 (Yh<|Y2V ?_);refine Yy1 (Y2m (T:="StopIteration") (b:=true) ⟨_,Yk _ Z,Z⟩ isSubtype_stop ?_);exact Yh (k _<|(((Yy09 ..).extBut).push _).push _)
theorem Zz89{sl:Nat->Nat}(hh:A.handled=none)(hN:Zp5 prog w a es ep t ord sl)(hf:t.fits es.size=true)(hne:a≠I):
  Walks prog w A I [I,a] [I] ord.length (λi v=>ord[i]?=some v) (λi h=>i<=ord.length/\IsSi h I a (rawInt (sl i:Nat)) i es.size ep/\SetIs h a es ep t) where
 sub:=λb hb=>Ye.mpr (.inl<|Yy2.mp hb)
 frame:=λ_ _ _ x hk=>⟨x.1,x.2.1.keep λo e=>hk I B o e,x.2.2.keep λo e=>hk a B o e⟩
 item:=λi s Q E hi ⟨_,x1,x2⟩ hQ=>by have hx:ord[i]?=some (ord[i]'hi):=Yy0 hi;exact ZY10 hN x2 hf x1 hx λh' y hs=>hQ _ h' s.toks hx ⟨hi,y,x2.keep λo e=>(hs.2 a hne).trans e⟩ λb o hb eo=>hs.extBut b o (λe=>hb<|by simp[e]) eo
 done:=λs Q E zz hQ=>by obtain⟨_,x1,x2⟩:=zz;exact ZX12 hh hN x2 hf x1 λh' he=>hQ h' s.toks λb o hb eo=>he b o (λe=>hb<|by simp[e]) eo
 self:=λ_ _ _ _ x hQ=>Zz78 x.2.1 hQ
theorem ZH9 (hf:t.fits es.size=true) (hr:Ris t) (hb:w.params.followText "set-order"=false) (hl:t.led=true) (hd:(!t.plain&&decide (es.size>1))=false):
  Zp5 prog w a es ep t (es.toList.map (·.2)) (λi=>if i=0 then 0 else (t.place.getD (i-1) 0)+1):=by
 intro A E s i Q ⟨o,ho,hx,hda⟩ hi q;have hps:t.place.size=es.size:=by unfold SetTable.fits at hf;simp only[Y0P,Y1d]at hf;exact hf.1
 rw[Yy9,YI]at hi;unfold setNext;refine Yy1 (Y1j ho hda hf ?_);dsimp only;refine Yy1 ?_;unfold setsByText;refine Yy1 (Y1r<|Yh ?_);show wpAny _ _ (if (w.params.followText "set-order")=true then _ else _) _ _ _
 rw[if_neg (by rw[hb];decide)];show wpAny _ _ (if (!t.plain&&decide (es.size>1))=true then _ else _) _ _ _
 rw[if_neg (by rw[hd];decide)];refine Yy1 ?_;show wpAny _ _ (if (!t.led && !es.isEmpty)=true then _ else _) _ _ _
 rw[if_neg (by rw[hl];simp)];refine Yh ?_;have eb:SetTable.below t.place (if i=0 then 0 else (t.place.getD (i-1) 0)+1)=i:=by
  by_cases c:i=0
  ·rw[if_pos c,c];exact Zz67 hr
  ·rw[if_neg c];obtain⟨v,hv⟩:∃v,t.place[i-1]?=some v:=⟨_,YF O⟩;have e:t.place.getD (i-1) 0=v:=by rw[Y0z,hv];rfl
   rw[e,Zz77 hr hv];lia
 rw[eb];refine Yh ?_;by_cases c:i<es.size
 ·obtain⟨v,hv⟩:∃v,t.place[i]?=some v:=⟨_,YF O⟩;obtain⟨y,hy⟩:∃y,es[i]?=some y:=⟨_,YF c⟩;have e:t.place.getD i 0=v:=by rw[Y0z,hv];rfl
  rw[Yg,Yy01,hy]at q;rw[hv,hy];simp only[Y2Z,Y2s,e,if_neg (Nat.succ_ne_zero i)]at q;exact q
 ·have e1:es[i]?=none:=Y1v O;rw[Yg,Yy01,e1]at q;rwa[e1]
theorem next_text (hf:t.fits es.size=true) (hb:w.params.followText "set-order"=true):
  Zp5 prog w a es ep t ((pickOrder (w.params.setOrder a ep) es).toList.map (·.2)) (λ_=>0):=by
 intro A E s i Q ⟨o,ho,hx,hda⟩ hi q;unfold setNext;refine Yy1 (Y1j ho hda hf ?_);dsimp only;refine Yy1 ?_;unfold setsByText;refine Yy1 (Y1r<|Yh ?_);show wpAny _ _ (if (w.params.followText "set-order")=true then _ else _) _ _ _
 rw[if_pos hb,if_neg B];refine Yy1 ?_;unfold setWalk;refine Yy1 (Y1j ho hda hf ?_);dsimp only;refine Yy1 ?_;unfold setsByText;refine Yy1 (Y1r<|Yh ?_);show wpAny _ _ (if (w.params.followText "set-order")=true then _ else _) _ _ _
 rw[if_pos hb];refine Yy1 (Y1r<|Yh ?_);rw[Yg,Yy01,Option.map_map]at q;exact Yh q
noncomputable def IsPl(h:Heap)(b:Addr)(pl:List Nat):Prop:=∃o n,h.get? b=some o/\o.data=.seq (pl.map λ(i:Nat)=>rawInt (i:Int)).toArray n
theorem IsPl.keep(x:IsPl h b pl)(e:∀o,h.get? b=some o->h'.get? b=some o):IsPl h' b pl:=by obtain⟨o,n,p,q⟩:=x;exact⟨o,n,e _ p,q⟩
theorem Zz111{i j:Nat}{x:Int×Value}{Q:Option Value->Shared->Prop}(hS:SetIs s.heap a es ep t)(hf:t.fits es.size=true)(hi:IsSi s.heap I a (.ref b) i es.size ep)(hb:IsPl s.heap b pl)(hj:pl[i]?=some j)(hx:es[j]?=some x)
  (k:∀h',IsSi h' I a (.ref b) (i+1) es.size ep->Heap.SameBut I s.heap h'->Q (some x.2) {s with heap:=h'}):wpAny (model prog w) A (pyNext<|.ref I) Q E s:=by
 obtain⟨o,ho,hc,hd⟩:=id hi;obtain⟨oa,hoa,hxa,hda⟩:=id hS;obtain⟨ob,nb,hob,hdb⟩:=hb;unfold pyNext;refine Yy1 (Y1X<|Y0a (name:=Str.ofString "__next__") hi.ty si_next<|Y0h si_next hi.ty ZL2 ?_<|ZM2 _);unfold Builtin.«set_iterator.__next__»;refine Yy1 (Y1A (a:=(Value.ref I,[])) Z ?_);dsimp only;refine Yy1 (Y2F ho hd ?_);dsimp only[rawInt];refine Yy1 (Y1q hoa hda hf ?_);rw[if_neg B];refine Yy1 (Y0L hob hdb ?_);dsimp only;have e:(pl.map λ(i:Nat)=>rawInt (i:Int)).toArray[(i:Int).toNat]?=some (.int (j:Int) 0):=by rw[YA,Y3t,Yg,hj];rfl
 rw[e];dsimp only;rw[YA,YA];refine Yy1 ?_;unfold setNextDrawn;refine Yy1 (Y1j hoa hda hf ?_);dsimp only;rw[if_neg B,hx];refine Yh ?_;refine Yy1 (Y0K ho hd B ?_);refine Yh ⟨x.2,Z,Yh<|k _ ⟨_,Yy02 _ ho<|Y0U<|YV hd _,?_,?_⟩<|Yy09 ..⟩
 ·rwa[Y2d]
 ·rw[YV hd];simp;rfl
theorem Zz213{Q:Option Value->Shared->Prop}(hh:A.handled=none)(hS:SetIs s.heap a es ep t)(hf:t.fits es.size=true)(hi:IsSi s.heap I a (.ref b) pl.length es.size ep)(hb:IsPl s.heap b pl)
  (k:∀h',Heap.ExtBut I s.heap h'->Q none {s with heap:=h'}):wpAny (model prog w) A (pyNext<|.ref I) Q E s:=by
 obtain⟨o,ho,hc,hd⟩:=id hi;obtain⟨oa,hoa,hxa,hda⟩:=id hS;obtain⟨ob,nb,hob,hdb⟩:=hb;unfold pyNext;refine Yy1 (Y1X<|Y0a (name:=Str.ofString "__next__") hi.ty si_next<|Y0h si_next hi.ty ZL2 ?_<|ZM2 _);unfold Builtin.«set_iterator.__next__»;refine Yy1 (Y1A (a:=(Value.ref I,[])) Z ?_);dsimp only;refine Yy1 (Y2F ho hd ?_);dsimp only[rawInt];refine Yy1 (Y1q hoa hda hf ?_);rw[if_neg B];refine Yy1 (Y0L hob hdb ?_);dsimp only;have e:(pl.map λ(i:Nat)=>rawInt (i:Int)).toArray[(pl.length:Int).toNat]?=none:=by rw[YA,Y3t];exact YQ B
 rw[e];dsimp only;refine Yy1 (Y0K ho hd B ?_);have ho2:=Yy02 (Obj.mapFields λvs=>vs.setIfInBounds 0<|rawInt 0) ho (Y0U<|YV hd _)
 refine Yy1 (Y0K ho2 (YV hd _) B ?_);show wpAny _ _ (newExc (.type "StopIteration") [] >>= _) _ _ _
 refine Yy1 ?_;simp only[newExc,newTuple];refine Yy1 (Y0c ?_<|by size_fits);refine Yy1 (m:=firstArgMember _ _) (Y1A (a:=Value.none) (by first|rfl|(simp only[firstArgMember];rfl)) ?_)
 refine Y0c ?_ (by size_fits);simp only[raiseNew];refine Yy1 (wpAny_handled ?_);rw[show A.in1.handled=none from hh];refine Yy1 (Yh<|Y2V ?_);refine Yy1 (Y2m (T:="StopIteration") (b:=true) ⟨_,Yk _ Z,Z⟩ isSubtype_stop ?_);exact Yh (k _<|((((Yy09 ..).trans (Yy09 ..)).extBut).push _).push _)
theorem Ze9(hh:A.handled=none)(hp:pl.Perm (List.range es.size))(hf:t.fits es.size=true)(hne:a≠I)(hnb:b≠I):
  Walks prog w A I [I,a,b] [I] pl.length (λi v=>(pl.filterMap λj=>(es[j]?).map (·.2))[i]?=some v) (λi h=>i<=pl.length/\IsSi h I a (.ref b) i es.size ep/\SetIs h a es ep t/\IsPl h b pl) where
 sub:=λc hc=>Ye.mpr (.inl<|Yy2.mp hc)
 frame:=λ_ _ _ x hk=>⟨x.1,x.2.1.keep λo e=>hk I B o e,x.2.2.1.keep λo e=>hk a B o e,x.2.2.2.keep λo e=>hk b B o e⟩
 item:=λi s Q E hi ⟨_,x1,x2,x3⟩ hQ=>by
  have hj:pl[i]?=some (pl[i]'hi):=Yy0 hi;have hlt:=YE.mp (hp.mem_iff.mp<|Yy8 hj)
  have hx:es[pl[i]'hi]?=some (es[pl[i]'hi]'hlt):=YF hlt;have fm:∀(l:List Nat),(∀j∈l,j<es.size)->l.filterMap (λj=>(es[j]?).map (·.2))=l.map λj=>(es.getD j (0,.none)).2:=λl hl=>by
   induction l with
   |nil=>rfl
   |cons y l ih=>
    have hy:=hl y Yb;rw[Y1f,QP,ih λj h=>hl j<|Yc _ h,YF hy,Y0z,YF hy];rfl
  have hv:(pl.filterMap λj=>(es[j]?).map (·.2))[i]?=some (es[pl[i]'hi]'hlt).2:=by rw[fm pl λj hj=>YE.mp<|hp.mem_iff.mp hj,Yg,hj,Y2Z,Y0z,hx];rfl
  exact Zz111 x2 hf x1 x3 hj hx λh' y hs=>hQ _ h' s.toks hv ⟨hi,y,x2.keep λo e=>(hs.2 a hne).trans e,x3.keep λo e=>(hs.2 b hnb).trans e⟩ λc o hc eo=>hs.extBut c o (λe=>hc<|by simp[e]) eo
 done:=λs Q E zz hQ=>by obtain⟨_,x1,x2,x3⟩:=zz;exact Zz213 hh x2 hf x1 x3 λh' he=>hQ h' s.toks λc o hc eo=>he c o (λe=>hc<|by simp[e]) eo
 self:=λ_ _ _ _ x hQ=>Zz78 x.2.1 hQ
end
section
variable{prog:Program}{w:World}{A XU:Around}{E:Value->Shared->Prop}{s:Shared}
theorem SetIs.ty (x:SetIs s.heap a es ep t):s.TypeIs (.ref a) "set":=by obtain⟨o,p,q,_⟩:=x;exact⟨o,p,q.1⟩
theorem Zc9 {Q:Value->Shared->Prop} (hh:A.handled=none) (hS:SetIs s.heap a es ep t) (hf:t.fits es.size=true) (hr:Ris t) (hl:t.led=!w.params.followText "set-order") (hz:es.size<=sizeLine)
  (k:∀(I:Addr)(h':Heap) d (ord:List Value) (fp:List Addr) (St:Nat->Heap->Prop),ord.Perm (es.toList.map (·.2))->Walks prog w A I fp [I] ord.length (λi v=>ord[i]?=some v) St->St 0 h'->(∀b∈fp,b<h'.objs.size/\(b=a\/s.heap.objs.size<=b))->I∈fp->s.heap.objs.size<=I->(∀c o,s.heap.get? c=some o->h'.get? c=some o)->Q (.ref I) {s with heap:=h',drawn:=d}):
  wpAny (model prog w) XU (pyIter<|.ref a) Q E s:=by
 obtain⟨o,ho,hx,hd⟩:=id hS;have lta:a<s.heap.objs.size:=Yi ho
 refine wpAny_pyIter_slot hS.ty Zz48 (Y0h Zz48 hS.ty Zz59 ?_<|Zz69 _);unfold Builtin.«frozenset.__iter__»;refine Yy1 (Y1A (a:=a) rfl ?_);refine Yy1 ?_;unfold Builtin.Frozenset.sizeOf;refine Yy1 (Y1q ho hd hf<|Yh ?_);refine Yy1 ?_;unfold setDrawn;refine Yy1 (Y1j ho hd hf ?_);dsimp only;refine Yy1 ?_;unfold setsByText;refine Yy1 (Y1r<|Yh<|Yh ?_);have num:∀ord sl,sl 0=0->Zp5 prog w a es ep t ord sl->ord.Perm (es.toList.map (·.2))->wpAny (model prog w) XU.in1 (pure (rawInt 0) >>= λfirst=>setEpoch a >>= λe=>newFields "set_iterator" [first,rawInt 0,.ref a,rawInt (es.size:Int),rawInt (e:Int)] >>= λit=>ret it)
   (λfin s'=>∃v,fin=Fin.done (Flow.ret v)/\∃T' r,s'.TypeIs v T'/\typeLookup (Value.type T') (Str.ofString "__next__")=pure (some r)/\Q v s') E s:=λord sl h0 hN hp=>by
  refine Yy1 (Yh<|Yy1<|wpAny_setEpoch_of ho hd hf<|Yy1 ?_);unfold newFields;refine Y0c ?_ (by size_fits);have hI:IsSi (s.heap.push {cls:=.type "set_iterator",data:=.fields [rawInt 0,rawInt 0,.ref a,rawInt (es.size:Int),rawInt (ep:Int)].toArray}) s.heap.objs.size a (rawInt (sl 0:Nat)) 0 es.size ep:=⟨_,Yk _ Z,Z,by rw[h0];rfl⟩
  refine Yh ⟨_,Z,"set_iterator",_,IsSi.ty (s:={s with heap:=_}) hI,si_next.lookup,?_⟩;have ne:a≠s.heap.objs.size:=Ym lta
  refine k _ _ s.drawn ord _ _ hp (Zz89 hh hN hf ne) ⟨Yr _,hI,hS.keep λo e=>Yy5 _ e⟩ (λb hb=>?_) B (Yy6 _) λc o e=>Yy5 _ e;rw[Y0n];rcases Ye.mp hb with e|e
  ·rw[e];exact⟨Y0d _,.inr<|Yy6 _⟩
  ·rw[Yy2.mp e];exact⟨Yy14 lta,.inl Z⟩
 by_cases hb:w.params.followText "set-order"=true
 ·rw[if_neg (by show ¬(!w.params.followText "set-order" && _)=true;rw[hb];simp)];refine num _ (λ_=>0) Z (next_text hf hb) ?_
  have:=Zy4 (f:=w.params.setOrder a ep) es.size 0 es.toList #[] (by rw[YI])
  exact this.map _
 ·have hb':w.params.followText "set-order"=false:=by simpa using hb
  rw[hb']at hl;by_cases c:(!t.plain&&decide (es.size>1))=true
  ·rw[if_pos (by show(!w.params.followText "set-order" && (!t.plain&&decide (es.size>1)))=true;rw[hb',c];rfl)];refine Yy1 (ZM6 es.size (List.range es.size) s _ (by rw[YK]) λpl d hp=>?_);have hpl:pl.length=es.size:=by rw[hp.length_eq,YK]
   refine Yy1 (wpAny_newTuple ?_<|by rwa[Yy9,hpl]);have hoS:∀(h:Heap) o,h.get? a=some o->(h.push {cls:=.type "tuple",data:=.seq (List.map (λi=>rawInt ((i:Nat):Int)) pl).toArray}).get? a=some o:=λh o e=>Yy5 _ e
   refine Yy1 (wpAny_setEpoch_of (hoS s.heap o ho) hd hf<|Yy1 ?_);unfold newFields;refine Y0c ?_ (by size_fits);have ne:a≠s.heap.objs.size:=Ym lta
   generalize hh1:s.heap.push {cls:=.type "tuple",data:=.seq (List.map (λi=>rawInt ((i:Nat):Int)) pl).toArray}=h1;have s1:h1.objs.size=s.heap.objs.size+1:=by rw[<-hh1];exact Y0n ..
   have old1:∀c o,s.heap.get? c=some o->h1.get? c=some o:=λc o e=>by rw[<-hh1];exact Yy5 _ e
   have hP1:IsPl h1 s.heap.objs.size pl:=by rw[<-hh1];exact⟨_,0,Yk _ Z,Z⟩
   have hI:IsSi (h1.push {cls:=.type "set_iterator",data:=.fields [Value.ref s.heap.objs.size,rawInt 0,.ref a,rawInt (es.size:Int),rawInt (ep:Int)].toArray}) h1.objs.size a (.ref s.heap.objs.size) 0 es.size ep:=⟨_,Yk _ Z,Z,Z⟩;refine Yh ⟨_,Z,"set_iterator",_,IsSi.ty (s:={s with heap:=_,drawn:=d}) hI,si_next.lookup,?_⟩;have hord:(pl.filterMap λj=>(es[j]?).map (·.2)).Perm (es.toList.map (·.2)):=by refine(hp.filterMap _).trans ?_;rw[<-filterMap_getElem?_range es,List.map_filterMap]
   have hol:(pl.filterMap λj=>(es[j]?).map (·.2)).length=pl.length:=by rw[hord.length_eq,Yy9,YI,hpl]
   have W:=Ze9 (prog:=prog) (w:=w) (A:=A) (I:=h1.objs.size) (a:=a) (b:=s.heap.objs.size) (es:=es) (ep:=ep) (t:=t) hh hp hf (by rw[s1];exact Ym<|Yy14 lta) (by rw[s1];exact Ym<|Y0d _);rw[<-hol]at W;refine k _ _ d _ _ _ hord W ⟨Yr _,hI,hS.keep λo e=>Yy5 _<|old1 _ o e,hP1.keep λo e=>Yy5 _ e⟩ (λb hb=>?_) B (by rw[s1];exact Y0W _) λc o e=>Yy5 _ (old1 c o e);rw[Y0n,s1];rcases Ye.mp hb with e|e
   ·rw[e,s1];exact⟨Y0d _,.inr<|Y0W _⟩
   ·rcases Ye.mp e with e|e
    ·rw[e];exact⟨Yy14<|Yy14 lta,.inl Z⟩
    ·rw[Yy2.mp e];exact⟨Yy14<|Y0d _,.inr<|Yy6 _⟩
  ·have c':(!t.plain&&decide (es.size>1))=false:=by simpa using c
   rw[if_neg (by show ¬(!w.params.followText "set-order" && (!t.plain&&decide (es.size>1)))=true;rw[c'];simp)];exact num _ _ Z (ZH9 hf hr hb' hl c') .rfl
end
theorem ZW12:typeLookup (.type "set") "__len__"=pure (some (.builtin "set.__len__")):=by rw[Y2v,Y1I];kernel_rfl
section
variable{prog:Program}{w:World}{A:Around}{E:Value->Shared->Prop}{s:Shared}
theorem ZU10 {r:Addr} {Q:Bool->Shared->Prop} (hT:s.TypeIs (.ref r) "set") (h:Q false s):wpAny (model prog w) A (Builtin.List.listLengthHint (.ref r)) Q E s:=by
 unfold Builtin.List.listLengthHint;refine Yy1 (wpAny_specialOf hT ZW12 ?_);generalize hid:("set.__len__":String)=id0
 wp_delta
 rw[show splitId id0=some ("set","__len__") from by subst hid;decide +kernel];subst hid;refine Yy1 (Y2m (T:="set") (b:=true) hT sub_set_self ?_);show wpAny _ A (typeOf (Value.ref r) >>= _) _ _ _
 exact Yy1 (wpAny_typeOf (T:="set") hT<|Yh h)
theorem Zl5 {Q:List Value->Shared->Prop} (hh:A.handled=none) (hS:SetIs s.heap a es ep t) (hf:t.fits es.size=true) (hr:Ris t) (hl:t.led=!w.params.followText "set-order") (hz:es.size<=sizeLine)
  (k:∀(out:List Value) h' tk d,out.Perm (es.toList.map (·.2))->s.heap.objs.size<=h'.objs.size->(∀c o,s.heap.get? c=some o->h'.get? c=some o)->Q out {s with heap:=h',toks:=tk,drawn:=d}):wpAny (model prog w) A (collect<|.ref a) Q E s:=by
 have hL1:(s.heap.push<|seqObj "list" #[] 0).get? s.heap.objs.size=some (seqObj "list" #[] 0):=Yk _ rfl;have hS1:SetIs (s.heap.push<|seqObj "list" #[] 0) a es ep t:=hS.keep λo e=>Yy5 _ e
 have lta:a<s.heap.objs.size:=by obtain⟨_,e,_⟩:=hS;exact Yi e
 unfold collect;refine Yy1 (wpAny_runValue<|Y0Q entry_proto_collect' ?_);show wpAny _ _ (newList [] >>= λv=>again<|.builtin "list.__iadd__" ⟨[v,.ref a],[]⟩) _ _ s
 refine Yy1 (wpAny_newList<|Yh ⟨Y2b _ S,Y0Q entry_list_iadd' ?_⟩);show wpAny _ _ (Builtin.List.listExtendWith (.ref s.heap.objs.size) (.ref a)<|.ref s.heap.objs.size) _ _ {s with heap:=s.heap.push (seqObj "list" #[] 0)}
 unfold Builtin.List.listExtendWith;refine Yy1 (wpAny_typeOf (T:="set") (SetIs.ty (s:={s with heap:=s.heap.push (seqObj "list" #[] 0)}) hS1) ?_);have e1:Builtin.List.listSameRef (.ref s.heap.objs.size) (.ref a)=false:=by show(s.heap.objs.size == a)=false;exact beq_false_of_ne (Y0S lta)
 rw[if_neg (by rw[e1];decide)];refine Yy1 (Zc9 (A:=A.in1) (by simp[hh]) hS1 hf hr hl hz λI h' d ord fp St hord W st0 hfp hI hge kp=>?_);have hT':Shared.TypeIs {s with heap:=h',drawn:=d} (.ref a) "set":=SetIs.ty (s:={s with heap:=h',drawn:=d}) (hS1.keep λo e=>kp a o e)
 refine Yy1 (Y1k<|ZU10 hT' ?_);rw[if_pos S];have hL2:=kp _ _ hL1
 refine Yy1 (Y2E<|Yy1 ?_);unfold Builtin.List.listTouch;refine Yy1 (listUpdate_at (xs:=#[]) (n:=0) hL2 Z ?_ (Yr _)<|by show 1<=sizeLine+1;lia);have hL3:=Yy02 (Obj.mapSeq (·.push Value.none)) hL2 rfl
 refine listUpdate_at (xs:=#[].push Value.none) (n:=1) hL3 Z ?_ (by show 1<=sizeLine;decide) (by show 0<=sizeLine+1;lia);have hL4:=Yy02 (Obj.mapSeq Array.pop) hL3 rfl
 have old:∀c o,c≠s.heap.objs.size->h'.get? c=some o->((h'.update s.heap.objs.size (Obj.mapSeq (·.push Value.none))).update s.heap.objs.size (Obj.mapSeq Array.pop)).get? c=some o:=λc o hc e=>by rwa[Y0O _ _ (YU hc),Y0O _ _ (YU hc)]
 generalize (h'.update s.heap.objs.size (Obj.mapSeq (·.push Value.none))).update s.heap.objs.size (Obj.mapSeq Array.pop)=h4 at *;have hSf:s.heap.objs.size∉fp:=λq=>by
  rcases(hfp _ q).2 with e|e
  ·exact Y0S lta e
  ·rw[show({s with heap:=s.heap.push (seqObj "list" #[] 0)}:Shared).heap.objs.size=s.heap.objs.size+1 from Y0n ..] at e;exact Nat.not_succ_le_self _ e
 have lenO:ord.length=es.size:=by rw[hord.length_eq,Yy9,YI]
 refine Yh ⟨plainId_quiet PySem.F.plain_extend_loop _,codeAny_extend_loopS W.toS (by rwa[lenO]) s.heap.objs.size hSf _ ord.length 0 _ #[] _ Z (Yr _) (W.frame 0 _ _ st0 λb hb o e=>old b o (λq=>hSf<|q▸hb) e) hL4 (ItemsOf.nil _) λs2 acc c m hL5 hacc=>?_⟩;have eo:acc.toList=ord:=by
  refine Y0V λi=>?_;rw[Yy01];by_cases hi:i<ord.length
  ·have q:acc[i]?=some (acc[i]'(by rwa[hacc.1])):=YF _;rw[q,hacc.2 i _ q]
  ·rw[YQ XR,Y1v (by rw[hacc.1];omega)]
 show wpAny _ A (load s.heap.objs.size >>= _) Q E s2;refine Yy1 (wpAny_load hL5 ?_);refine Yh ?_;rw[eo,Moved.eq_with m];refine k ord s2.heap s2.toks d hord (Y1m<|Yi hL5) λc o e=>?_;have lt:=Yi e
 refine m.heap c o (λq=>?_) (old c o (Ym lt)<|kp c o<|Yy5 _ e);rcases Ye.mp q with e'|e'
 ·exact Ym lt e'
 ·rw[Yy2.mp e']at lt
  have:=Yf lt (Yv (Y0W _)<|Y0n .. ▸ hge)
  exact Y0p _ this
end
theorem ZD2:∀{l:List Int},m.Nodup->l.length=m.length->(∀x∈m,x∈l)->l.Perm m:=by
 induction m with
 |nil=>intro l _ h _;rw[YH.mp h]
 |cons x m ih=>
  intro l hn hl hs;have hx:=hs x Yb
  have hn':=Y0r.mp hn;refine(List.perm_cons_erase hx).trans ((ih hn'.2 (by rw[Y3d hx,hl];rfl) λy hy=>?_).cons x);have ne:y≠x:=λe=>hn'.1 (by rwa[<-e])
  exact(List.mem_erase_of_ne ne).mpr (hs y<|Yc _ hy)
theorem ZF7(p:us.Perm vs):∀{ns:List Int},IntsAre vs ns->∃ms,IntsAre us ms/\ms.Perm ns:=by
 induction p with
 |nil=>intro ns h;exact⟨ns,h,.rfl⟩
 |cons x _ ih=>
  intro ns h;cases h with
  |cons n t h=>
   obtain⟨ms,h1,h2⟩:=ih h;exact⟨n::ms,.cons n t h1,h2.cons n⟩
 |swap x y l=>
  intro ns h;cases h with
  |cons n t h=>
   cases h with
   |cons m u h=>exact⟨m::n::_,.cons m u<|.cons n t h,.swap n m _⟩
 |trans _ _ ih1 ih2=>
  intro ns h;obtain⟨ms,h1,h2⟩:=ih2 h;obtain⟨ls,h3,h4⟩:=ih1 h1;exact⟨ls,h3,h4.trans h2⟩
theorem Zz010(h:IntsAre vs ns):vs.length=ns.length:=by
 induction h with
 |nil=>rfl
 |cons n t _ ih=>rw[Yq,Yq,ih]
theorem ZL1(val:Nat->Int):∀i,(firstMet val i).Nodup
 |0=>.nil
 |i+1=>by
  rw[Y2U];unfold step_dedup;split
  ·exact ZL1 val i
  ·rename_i h;refine Yy15.mpr ⟨ZL1 val i,B,λa ha b hb e=>?_⟩;rw[Yy2.mp hb]at e;exact h (Yy10.mpr ⟨a,ha,by rw[e];simp⟩)
section
variable{prog:Program}{w:World}{A:Around}{E:Value->Shared->Prop}{s:Shared}
theorem Zp2:∀{l:List (Int×Value)},ElemsOf (intKind prog w) l->∃ms,IntsAre (l.map (·.2)) ms/\∀z,z∈ms↔∃y∈l,(intKind prog w).is z y.2=true
 |[],_=>⟨[],.nil,λz=>⟨λh=>(by cases h),λzz=>by obtain⟨y,h,_⟩:=zz;exact(by cases h)⟩⟩
 |y::l,h=>by
  obtain⟨ms,h1,h2⟩:=Zp2 h.tail;obtain⟨⟨z,hz,_⟩,_⟩:=h.head;obtain⟨hy,v⟩:=y;obtain⟨u,rfl⟩:=Value.isInt_shape (show Value.isInt z v=true from hz);refine⟨z::ms,.cons z u h1,λx=>?_⟩;rw[Ye,h2];constructor
  ·rintro(e|⟨y,hy,q⟩)
   ·exact⟨_,Yb,e▸hz⟩
   ·exact⟨y,Yc _ hy,q⟩
  ·rintro⟨y,hy,q⟩;rcases Ye.mp hy with e|e
   ·rw[e]at q;exact .inl ((intKind prog w).inj _ _ _ q hz)
   ·exact .inr ⟨y,e,q⟩
theorem ZJ5 {led:Bool} {XW:Int->Bool} {Q:Value->Shared->Prop} (hh:A.handled=none) (hS:SetR prog w s.heap a (!w.params.followText "set-order") XW n) (h64:n<64)
  (k:∀(ms:List Int)(out:List Value) r h' tk d c,IntsAre out ms->ms.Pairwise (·<=·)->ms.length=n->(∀z,z∈ms↔XW z=true)->s.heap.objs.size<=r->h'.get? r=some (seqObj "list" out.toArray c)->(∀c o,s.heap.get? c=some o->h'.get? c=some o)->Q (.ref r) {s with heap:=h',toks:=tk,drawn:=d}):
  wpAny (model prog w) A (call (.builtin "sorted") [.ref a]) Q E s:=by
 obtain⟨o,es,ep,t,ho,hx,hd,he,hm,hb,hf,hn,hr,hl⟩:=hS;obtain⟨ns,hI,hmem⟩:=Zp2 he;have hsl:sizeLine=16777216:=Y1N
 refine Calls.call_function_entry kind_sorted plain_sorted entry_sorted (args_sorted1 _) ?_;unfold Builtin.«sorted»;refine Yy1 (m:=checkCount "sorted" 1 1 _) (Yh ?_);refine Yy1 (Zl5 (A:=A.in1) (by simp[hh]) ⟨o,ho,hx,hd⟩ hf hr hl O λout h1 tk d hp hge kp=>?_);obtain⟨ls,hI2,hp2⟩:=ZF7 hp hI;have lo:=Zz010 hI2
 have ll:ls.length=n:=by rw[<-lo,hp.length_eq,Yy9,YI,hn]
 refine Yy1 (wpAny_newList ?_);have hL:(h1.push<|seqObj "list" out.toArray 0).get? h1.objs.size=some (seqObj "list" out.toArray 0):=Yk _ rfl
 refine Yy1 (Y1k<|Y0h slot_list_sort ⟨_,hL,Z⟩ entry_list_sort (list_sort_tree hL hI2 O λres ms b1 b2 b3=>⟨_,Z,?_⟩)<|args_list_sort _);obtain⟨c,hc⟩:=sortedHeap_at (out:=res) hL;refine Yh ⟨_,Z,k ms res.toList h1.objs.size _ tk d c b1 b3 (by rw[b2.length_eq,ll]) (λz=>by rw[b2.mem_iff,hp2.mem_iff,hmem,hm]) hge (by rwa[Array.toArray_toList]) λb ob e=>?_⟩;have lt:=Yi (kp b ob e)
 rw[sortedHeap_old (Ym lt) (by rw[size_push'];exact Yy14 lt)];exact Yy5 _ (kp b ob e)
end
section
variable{X:Cx}{p p2 pos pos2:Pos}{e:Expr}{t:TA}
theorem Inv.drew(I:Inv X pins σ H s)(d:Drawn):Inv X pins σ H {s with drawn:=d}:=
 I.step (g':=s.gens) (d':=d) (t':=s.toks) (h':=s.heap) (ch:=[]) (λb hb=>(by cases hb)) (λb o _ _ _ q _=>q) (λb o _ _ _ q _=>⟨o.slots,q⟩) (λb o _ _ n=>n) (λb o _ q=>⟨o,q⟩) (λb xs q=>q) (λb o u q=>q) (λb ps q=>⟨#[],by rw[q];simp⟩) (λm hm=>hm) I.hok I.bare
noncomputable def ZD5(K:PySem.W.Frag)(t:TA):TE:=λσ H Q=>t σ H λvs H1=>∃(a:Addr)(ns:List Int),vs=[.ref a]/\SqL K H1 a (ns.map V.int)/\ns.length<64/\∀ms:List Int,ms.Pairwise (·<·)->(∀z,z∈ms↔z∈ns)->∀l,H1 l=none->Q (.ref l) (upd H1 l<|.lst<|ms.map V.int)
theorem ZR3 (K:PySem.W.Frag) (hc:X.calm=true) (g1:Gl X "sorted") (m1:X.mg "sorted"=none) (g2:Gl X "set") (m2:X.mg "set"=none) (ha:PA X [e] t) (hk:X.K=K:=by rfl)
  (he:starEach [e] X.env=[(false,eval e X.env)]:=by rfl)
  (he2:starEach [.Call (.Name "set" p2) [e] [] pos2] X.env=[(false,eval (.Call (.Name "set" p2) [e] [] pos2) X.env)]:=by rfl):
  PE X (.Call (.Name "sorted" p) [.Call (.Name "set" p2) [e] [] pos2] [] pos) (ZD5 K t):=by
 subst hk;intro pins s σ H Q I h;refine Y0y (Zw2 I g1 m1 Boot.«sorted» ?_);refine Y2z ?_ (by rw[he2];rfl) rfl;rw[he2];show wpAny _ _ (spliced<|(false,eval (.Call (.Name "set" p2) [e] [] pos2) X.env)::backTo pos []) _ _ s
 refine Calls.spliced_cons ?_;refine Y0y (Zw2 I g2 m2 Boot.«set» ?_);refine Yy08 (thn (ha pos2 pins s σ H _ I h) λus s1 zz=>?_) (by rw[he];rfl) rfl;obtain⟨vs,H1,I1,r1,q1⟩:=zz;obtain⟨a,ns,rfl,hq,hn,q⟩:=q1;obtain⟨u,rfl,ru⟩:=Ze3 r1;obtain rfl:u=Value.ref a:=ru;obtain⟨its,rv,pl,hz⟩:=I1.list hq;have hi:=Zz41 rv
 have el:its.toArray.size=ns.length:=by rw[Ya,<-rv.length,Yy9]
 have sb:scanBound=4096:=rfl;refine ZZ10 (I.ok.hd hc) pl.isList (ns:=ns) (by simpa using hi) O λh2 tk hS kp=>?_;refine Calls.spliced_nil ?_;have fl:=firstMet_length_le (λi=>ns.getD i 0) its.toArray.size
 refine ZJ5 (led:=true) (s:={s1 with heap:=h2,toks:=tk}) (I.ok.hd hc) hS O λms out r h3 tk3 d c hI hs hl hmem hge hr kp3=>?_;have em:∀z,z∈ms↔z∈ns:=λz=>by
  rw[hmem,firstMet_any,el];have e1:(List.range ns.length).map (λi=>ns.getD i 0)=ns:=by
   refine Y0V λi=>?_;rw[Yg];by_cases c:i<ns.length
   ·rw[Y0G c,Yy0 c,Y2Z,Yy7,Yy0 c];rfl
   ·rw[YQ (by rw[YK];lia),YQ XT];rfl
  rw[e1];simp
 have hnd:ms.Nodup:=(ZD2 (ZL1 _ _) hl λx hx=>(hmem x).mpr (Yy10.mpr ⟨x,hx,B⟩)).nodup_iff.mpr (ZL1 _ _);have hlt:s1.heap.objs.size<=h2.objs.size:=by obtain⟨_,_,_,_,e,_⟩:=hS;exact Y1m (Yi e)
 have hge2:s1.heap.objs.size<=r:=Yv hlt hge;have hml:ms.length<=ns.length:=by rwa[hl,<-el]
 have I2:=(I1.laid (o:=.lst<|ms.map V.int) (h':=h3) (t':=tk3) (λb o e=>kp3 b o<|kp b o e) hge2 ⟨by rw[Yy9];have:sizeLine=16777216:=Y1N;lia,out,c,ZG1 hI,hr⟩).drew d;exact⟨.ref r,_,I2,Z,q ms (My.srt_strict hs hnd) em r<|I1.hok.fresh hge2⟩
end
end L2
namespace My
open PySem L2
theorem ZC13{s rest:TS}{D:Ends}{σ:L2.St}{H:Hp}(P:L2.St->Hp->Prop)(h1:∀σ' H',P σ' H'->rest D σ' H')(h2:∀K:L2.St->Hp->Prop,(∀σ' H',P σ' H'->K σ' H')->s {D with nx:=K} σ H):tSeq s rest D σ H:=h2 _ h1
theorem tryX{tb:(L2.St->XK)->TS}{th:Addr->Addr->TS}{D:Ends}{σ:L2.St}{H:Hp}(P:L2.St->Addr->Hp->Prop)
  (h1:∀σ' C H',P σ' C H'->PySem.W.exmOne K (.ref C) (.ref W)=some true/\∀e:Addr,H' e=none->th e C (D.less i) (σ'.set i<|some<|.ref e) H')
  (h2:∀R:L2.St->XK,(∀σ' C H',P σ' C H'->R σ' (.ref C) none H')->tb R D σ H):tTry K W i tb th D σ H:=h2 _ λ_ C _ p=>⟨C,Z,h1 _ _ _ p⟩
theorem Zz211(g:ZL n ps):∃L:List (List Int),(∀l,l∈L↔Zo n ps l)/\L.Pairwise lexS:=⟨frs n.toNat ps (n-1).toNat,λ_=>Za10 g,(Zz37 _ _).filter _⟩
end My
namespace L2
open PySem PySem.Spec PyProof.Rows
section
variable{prog:Program}{w:World}{A:Around}{E:Value->Shared->Prop}{s:Shared}
theorem ZE9{u:Value}{Q:Value->Shared->Prop}(hj:s.heap.IsTupleIter j t i)(ht:s.heap.IsTuple t us)(hu:us[i]?=some u)
  (q:∀h',h'.IsTupleIter j t (i+1)->Heap.SameBut j s.heap h'->Q u {s with heap:=h'}):wpAny (model prog w) A (Builtin.SmallTypes.nextOf<|.ref j) Q E s:=by
 obtain⟨o1,e1,c1,d1⟩:=id hj;obtain⟨o2,e2,_,n2,d2⟩:=ht;unfold Builtin.SmallTypes.nextOf;refine Yy1 (Y0a (name:=Str.ofString "__next__") hj.typeIs Y1i<|Y0h Y1i hj.typeIs Y3x ?_<|Y3q _);show wpAny _ _ (field (.ref j) 0 >>= _) _ _ s
 refine Yy1 (Y0o e1 d1 (x:=.ref t) Z ?_);rw[if_neg (show ¬(Value.ref t == Value.none)=true from Yo)];show wpAny _ _ (field (.ref j) 1 >>= _) _ _ s
 refine Yy1 (Y0o e1 d1 (x:=.int i 0) Z ?_);show wpAny _ _ (seqItems? (.ref t) >>= _) _ _ s
 refine Yy1 (Y0L e2 d2 ?_);simp only[hu,YA];refine Yy1 (Y0K e1 d1 B<|Yh ⟨u,Z,Yh<|q _ ?_<|Yy09 ..⟩);refine⟨_,Yy02 _ e1<|Y0U<|YV d1 _,(Y2d ..).trans c1,?_⟩;rw[YV d1];simp[rawInt]
theorem Zt11{Q:Value->Shared->Prop}(hh:A.handled=none)(hj:s.heap.IsTupleIter j t i)(ht:s.heap.IsTuple t us)(hu:us[i]?=none)
  (q:∀h' e,Heap.ExtBut j s.heap h'->(∃o,h'.get? e=some o/\o.cls=.type "StopIteration")->E (.ref e) {s with heap:=h'}):wpAny (model prog w) A (Builtin.SmallTypes.nextOf<|.ref j) Q E s:=by
 obtain⟨o1,e1,c1,d1⟩:=id hj;obtain⟨o2,e2,_,n2,d2⟩:=ht;unfold Builtin.SmallTypes.nextOf;refine Yy1 (Y0a (name:=Str.ofString "__next__") hj.typeIs Y1i<|Y0h Y1i hj.typeIs Y3x ?_<|Y3q _);show wpAny _ _ (field (.ref j) 0 >>= _) _ _ s
 refine Yy1 (Y0o e1 d1 (x:=.ref t) Z ?_);rw[if_neg (show ¬(Value.ref t == Value.none)=true from Yo)];show wpAny _ _ (field (.ref j) 1 >>= _) _ _ s
 refine Yy1 (Y0o e1 d1 (x:=.int i 0) Z ?_);show wpAny _ _ (seqItems? (.ref t) >>= _) _ _ s
 refine Yy1 (Y0L e2 d2 ?_);simp only[hu,YA];refine Yy1 (Y2E<|Yy1<|Y0K e1 d1 B<|Yy1 (m:=newExc (.type "StopIteration") []) ?_);simp only[newTuple,newExc];refine Yy1 (Y0c (Yy1 (m:=firstArgMember _ _)<|Y1A (a:=Value.none) (by first|rfl|(simp only[firstArgMember];rfl))<|Y0c ?_<|by size_fits)<|by size_fits)
 unfold raiseNew;refine Yy1 (wpAny_handled ?_)
 first
  |rw[hh]
  |rw[show A.in1.handled=none from hh]
 refine Yy1 (Yh<|Y2V<|q _ _ (((Yy09 ..).extBut.push _).push _) ⟨_,Yk _ Z,Z⟩)
theorem Zb7{x u a b:Value}{Q:Value->Shared->Prop}(D:ZipApart z P XY i j l t)(y0:IsZip s.heap z P XY .none)(p0:IsPair s.heap P (.ref i) (.ref j))(o0:IsPair s.heap XY a b)
  (hi:s.heap.IsListIter i l k)(hj:s.heap.IsTupleIter j t m)(hl:s.heap.IsList l xs)(ht:s.heap.IsTuple t us)(hx:xs[k]?=some x)(hu:us[m]?=some u)
  (q:∀h',IsZip h' z P XY (rawInt s.heap.objs.size)->IsPair h' XY x u->h'.IsListIter i l (k+1)->h'.IsTupleIter j t (m+1)->IsPair h' s.heap.objs.size x u->h'.objs.size=s.heap.objs.size+1->
   (∀c o,c≠z->c≠XY->c≠i->c≠j->s.heap.get? c=some o->h'.get? c=some o)->Q (.ref s.heap.objs.size) {s with heap:=h'}):
  wpAny (model prog w) A (Builtin.«zip.__next__» ⟨[.ref z],[]⟩) (λr s'=>∃v,r=.done (.ret v)/\Q v s') E s:=by
 show wpAny _ _ (field (.ref z) 2 >>= _) _ E s;refine Yy1 (Y0o y0 Z (x:=.bool false) Z ?_);show wpAny _ _ (field (.ref z) 3 >>= _) _ E s
 refine Yy1 (Y0o y0 Z (x:=.ref P) Z<|Yy1<|Y0L p0 Z<|Yy1 (m:=Builtin.SmallTypes.ownedTupleIsFree<|.ref z) ?_);unfold Builtin.SmallTypes.ownedTupleIsFree;refine Yy1 (Y0o y0 Z (x:=.none) Z<|Yh ?_);simp only[Y3l];refine Yy1 (Y2E<|Yy1<|Y0o y0 Z (x:=.ref XY) Z<|Yy1<|Yy17 y0 B λg1 y1 w1=>Yy1 ?_)
 replace y1:IsZip g1 z P XY .ellipsis:=y1
 simp only[Yy33,List.forIn_nil,List.zipIdx_cons,List.zipIdx_nil];refine Yy1 (Yy1<|Yy36<|Yy1 (m:=Builtin.SmallTypes.nextOf<|.ref i) ?_);refine wpAny_nextOf_list_item (hi.extBut w1.extBut D.i1z) (hl.extBut w1.extBut D.l1z) hx λg2 i2 w2=>Yh ?_;have o2:IsPair g2 XY a b:=w2.extBut _ _ D.TOi1 (w1.extBut _ _ D.TOz o0)
 refine Yy1 (Y0L o2 Z<|Yy1<|Y2x o2 λg3 o3 w3=>Yy1<|wpAny_letGo<|Yh ?_)
 replace o3:IsPair g3 XY x b:=o3
 refine Yy1 (Yy1<|Yy36<|Yy1 (m:=Builtin.SmallTypes.nextOf<|.ref j) ?_);refine ZE9 (((hj.extBut w1.extBut D.i2z).extBut w2.extBut D.i12.symm).extBut w3.extBut D.TOi2.symm) (((ht.extBut w1.extBut D.l2z).extBut w2.extBut D.l2i1).extBut w3.extBut D.l2TO) hu λg4 j4 w4=>Yh ?_;have o4:IsPair g4 XY x b:=w4.extBut _ _ D.TOi2 o3
 refine Yy1 (Y0L o4 Z<|Yy1<|Y2x o4 λg5 o5 w5=>Yy1<|wpAny_letGo<|Yh<|Yh ?_)
 replace o5:IsPair g5 XY x u:=o5
 refine Yy1 (Y0L o5 Z<|Yy1<|wpAny_newTuple ?_);have sz:g5.objs.size=s.heap.objs.size:=by rw[w5.1,w4.1,w3.1,w2.1,w1.1]
 have y5:IsZip g5 z P XY .ellipsis:=w5.extBut _ _ D.TOz.symm (w4.extBut _ _ D.i2z.symm<|w3.extBut _ _ D.TOz.symm<|w2.extBut _ _ D.i1z.symm y1);have kp:∀c o,c≠z->c≠XY->c≠i->c≠j->s.heap.get? c=some o->g5.get? c=some o:=λc o c1 c2 c3 c4 e=>w5.extBut _ _ c2 (w4.extBut _ _ c4<|w3.extBut _ _ c2<|w2.extBut _ _ c3<|w1.extBut _ _ c1 e)
 have i5:g5.IsListIter i l (k+1):=((i2.extBut w3.extBut D.TOi1.symm).extBut w4.extBut D.i12).extBut w5.extBut D.TOi1.symm;have j5:g5.IsTupleIter j t (m+1):=j4.extBut w5.extBut D.TOi2.symm
 have lz:z<g5.objs.size:=Yi y5;show wpAny _ _ (Builtin.SmallTypes.ownedTupleHandOut (.ref z) (.ref g5.objs.size) >>= _) _ E _
 refine Yy1 ?_;unfold Builtin.SmallTypes.ownedTupleHandOut;have y6:IsZip (g5.push {cls:=.type "tuple",data:=.seq #[x,u]}) z P XY .ellipsis:=Yy5 _ y5
 refine Yy1 (Yy17 y6 B λg7 y7 w7=>?_)
 replace y7:IsZip g7 z P XY (rawInt g5.objs.size):=y7
 refine Yy17 y7 B λg8 y8 w8=>?_
 replace y8:IsZip g8 z P XY (rawInt g5.objs.size):=y8
 have up:∀c o,c≠z->g5.get? c=some o->g8.get? c=some o:=λc o c1 e=>w8.extBut _ _ c1 (w7.extBut _ _ c1<|Yy5 _ e);have n8:IsPair g8 g5.objs.size x u:=w8.extBut _ _ (Y0S lz) (w7.extBut _ _ (Y0S lz)<|Yk _ Z)
 have z8:g8.objs.size=g5.objs.size+1:=by rw[w8.1,w7.1,Y0n]
 rw[sz]at y8 n8 z8;refine Yh ⟨_,Z,?_⟩;show Q (.ref g5.objs.size) _
 rw[sz];exact q g8 y8 (up _ _ D.TOz o5) (i5.at λo e=>up _ o D.i1z e) (j5.at λo e=>up _ o D.i2z e) n8 z8 λc o c1 c2 c3 c4 e=>up c o c1 (kp c o c1 c2 c3 c4 e)
theorem ZS8{Q:Fin->Shared->Prop}(hh:A.handled=none)(D:ZipApart z P XY i j l t)(y0:IsZip s.heap z P XY .none)(p0:IsPair s.heap P (.ref i) (.ref j))(o0:IsPair s.heap XY a b)
  (hi:s.heap.IsListIter i l k)(hj:s.heap.IsTupleIter j t m)(hl:s.heap.IsList l xs)(ht:s.heap.IsTuple t us)(hE:xs[k]?=none\/us[m]?=none)
  (q:∀h' e,(∀c o,c≠z->c≠XY->c≠i->c≠j->s.heap.get? c=some o->h'.get? c=some o)->(∃o,h'.get? e=some o/\o.cls=.type "StopIteration")->E (.ref e) {s with heap:=h'}):
  wpAny (model prog w) A (Builtin.«zip.__next__» ⟨[.ref z],[]⟩) Q E s:=by
 show wpAny _ _ (field (.ref z) 2 >>= _) _ E s;refine Yy1 (Y0o y0 Z (x:=.bool false) Z ?_);show wpAny _ _ (field (.ref z) 3 >>= _) _ E s
 refine Yy1 (Y0o y0 Z (x:=.ref P) Z<|Yy1<|Y0L p0 Z<|Yy1 (m:=Builtin.SmallTypes.ownedTupleIsFree<|.ref z) ?_);unfold Builtin.SmallTypes.ownedTupleIsFree;refine Yy1 (Y0o y0 Z (x:=.none) Z<|Yh ?_);simp only[Y3l];refine Yy1 (Y2E<|Yy1<|Y0o y0 Z (x:=.ref XY) Z<|Yy1<|Yy17 y0 B λg1 y1 w1=>Yy1 ?_)
 replace y1:IsZip g1 z P XY .ellipsis:=y1
 simp only[Yy33,List.forIn_nil,List.zipIdx_cons,List.zipIdx_nil];refine Yy1 (Yy1<|Yy36<|Yy1 (m:=Builtin.SmallTypes.nextOf<|.ref i) ?_);cases hx:xs[k]? with
 |none=>
  refine wpAny_nextOf_list_end hh (hi.extBut w1.extBut D.i1z) (hl.extBut w1.extBut D.l1z) hx λg2 e w2 hz0=>?_;obtain⟨oe,he,ce⟩:=hz0;have y2:IsZip g2 z P XY .ellipsis:=w2 _ _ D.i1z.symm y1
  have ez:e≠z:=by rintro rfl;rw[y2]at he;cases he;simp at ce
  exact Yy17 y2 B λg3 _ w3=>q g3 e (λc o c1 _ c3 _ r=>w3.extBut _ _ c1<|w2 _ _ c3<|w1.extBut _ _ c1 r) ⟨oe,w3.extBut _ _ ez he,ce⟩
 |some x=>
  have hu:us[m]?=none:=hE.resolve_left (by rw[hx];exact Option.some_ne_none x);refine wpAny_nextOf_list_item (hi.extBut w1.extBut D.i1z) (hl.extBut w1.extBut D.l1z) hx λg2 i2 w2=>Yh ?_;have o2:IsPair g2 XY a b:=w2.extBut _ _ D.TOi1 (w1.extBut _ _ D.TOz o0)
  refine Yy1 (Y0L o2 Z<|Yy1<|Y2x o2 λg3 o3 w3=>Yy1<|wpAny_letGo<|Yh ?_);refine Yy1 (Yy1<|Yy36<|Yy1 (m:=Builtin.SmallTypes.nextOf<|.ref j) ?_);refine Zt11 hh (((hj.extBut w1.extBut D.i2z).extBut w2.extBut D.i12.symm).extBut w3.extBut D.TOi2.symm) (((ht.extBut w1.extBut D.l2z).extBut w2.extBut D.l2i1).extBut w3.extBut D.l2TO) hu λg4 e w4 hz0=>?_;obtain⟨oe,he,ce⟩:=hz0;have y4:IsZip g4 z P XY .ellipsis:=w4 _ _ D.i2z.symm (w3.extBut _ _ D.TOz.symm<|w2.extBut _ _ D.i1z.symm y1)
  have ez:e≠z:=by rintro rfl;rw[y4]at he;cases he;simp at ce
  exact Yy17 y4 B λg5 _ w5=>q g5 e (λc o c1 c2 c3 c4 r=>w5.extBut _ _ c1<|w4 _ _ c4<|w3.extBut _ _ c2<|w2.extBut _ _ c3<|w1.extBut _ _ c1 r) ⟨oe,w5.extBut _ _ ez he,ce⟩
theorem Zd5{x u a b:Value}{Q:Option Value->Shared->Prop}(D:ZipApart z P XY i j l t)(y0:IsZip s.heap z P XY .none)(p0:IsPair s.heap P (.ref i) (.ref j))(o0:IsPair s.heap XY a b)
  (hi:s.heap.IsListIter i l k)(hj:s.heap.IsTupleIter j t m)(hl:s.heap.IsList l xs)(ht:s.heap.IsTuple t us)(hx:xs[k]?=some x)(hu:us[m]?=some u)
  (q:∀h',IsZip h' z P XY (rawInt s.heap.objs.size)->IsPair h' XY x u->h'.IsListIter i l (k+1)->h'.IsTupleIter j t (m+1)->IsPair h' s.heap.objs.size x u->h'.objs.size=s.heap.objs.size+1->
   (∀c o,c≠z->c≠XY->c≠i->c≠j->s.heap.get? c=some o->h'.get? c=some o)->Q (some<|.ref s.heap.objs.size) {s with heap:=h'}):wpAny (model prog w) A (pyNext<|.ref z) Q E s:=by have ty:s.TypeIs (.ref z) "zip":=⟨_,y0,Z⟩;unfold pyNext;refine Yy1 (Y1X<|Y0a (name:=Str.ofString "__next__") ty Y2w<|Y0h Y2w ty F.entry_zip_next ?_<|F.args_zip_next_1 _);exact Zb7 D y0 p0 o0 hi hj hl ht hx hu λh' b1 b2 b3 b4 b5 b6 b7=>Yh (q h' b1 b2 b3 b4 b5 b6 b7)
theorem Zd6{Q:Option Value->Shared->Prop}(hh:A.handled=none)(D:ZipApart z P XY i j l t)(y0:IsZip s.heap z P XY .none)(p0:IsPair s.heap P (.ref i) (.ref j))(o0:IsPair s.heap XY a b)
  (hi:s.heap.IsListIter i l k)(hj:s.heap.IsTupleIter j t m)(hl:s.heap.IsList l xs)(ht:s.heap.IsTuple t us)(hE:xs[k]?=none\/us[m]?=none)
  (q:∀h',(∀c o,c≠z->c≠XY->c≠i->c≠j->s.heap.get? c=some o->h'.get? c=some o)->Q none {s with heap:=h'}):wpAny (model prog w) A (pyNext<|.ref z) Q E s:=by have ty:s.TypeIs (.ref z) "zip":=⟨_,y0,Z⟩;unfold pyNext;refine Yy1 (Y1X<|Y0a (name:=Str.ofString "__next__") ty Y2w<|Y0h Y2w ty F.entry_zip_next ?_<|F.args_zip_next_1 _);refine ZS8 hh D y0 p0 o0 hi hj hl ht hE λh' e hk hz0=>?_;obtain⟨o,ho,co⟩:=hz0;exact Yy1 (Y2m (T:="StopIteration") (b:=true) ⟨o,ho,co⟩ isSubtype_stop<|Yh<|q _ hk)
end
noncomputable def zH(h:Heap)(l t:Addr):Heap:=
 ((((h.push {cls:=.type "list_iterator",data:=.fields #[.ref l,.int 0 0]}).push {cls:=.type "tuple_iterator",data:=.fields #[.ref t,.int 0 0]}).push {cls:=.type "tuple",data:=.seq #[.ref h.objs.size,.ref (h.objs.size+1)]}).push {cls:=.type "tuple",data:=.seq #[.none,.none]}).push {cls:=.type "zip",data:=.fields #[.none,.bool false,.bool false,.ref<|h.objs.size+2,.ref (h.objs.size+3)]}
theorem ZR8(l t:Addr)(xs us:Array Value):
  Meets (Builtin.«zip.__new__» ⟨[.type "zip",.ref l,.ref t],[]⟩) (λ_ R s=>s.heap.IsList l xs/\s.heap.IsTuple t us/\R (.ok<|.ret<|.ref<|s.heap.objs.size+4) {s with heap:=zH s.heap l t}):=
 .of_wp λprog w A R s h=>by
  obtain⟨hp,g,d,tk,os⟩:=s;obtain⟨hl,ht,h⟩:=h;have hsub:=sub_zip
  have f1:Heap.IsList (Shared.heap ⟨hp,g,d,tk,os⟩) l xs:=hl;have f2:Heap.IsTuple (Shared.heap ⟨hp.push {cls:=.type "list_iterator",data:=.fields #[.ref l,.int 0 0]},g,d,tk,os⟩) t us:=Heap.IsTuple.push ht _
  wp_walk using Y1H f1,Y2W f2
  refine⟨_,Z,?_⟩;have e:∀(h:Heap)(o:Obj),(h.push o).objs.size=h.objs.size+1:=λh o=>Y0n ..
  simp only[e];exact h
noncomputable def ItzT(K:PySem.W.Frag)(a b:Addr):It:=
 ⟨λi H=>∃xs ys x y,SqL K H a xs/\SqT K H b ys/\xs[i]?=some x/\ys[i]?=some y,λi H v H'=>∃T x y,H T=none/\v=.ref T/\H'=upd H T (.tup [x,y])/\(∀xs,SqL K H a xs->xs[i]?=some x)/\∀ys,SqT K H b ys->ys[i]?=some y,
  λi H=>∃xs ys,SqL K H a xs/\SqT K H b ys/\(xs.length<=i\/ys.length<=i)⟩
theorem Zd7{P:Program}{w:World}{K:PySem.W.Frag}{elts:List Expr}{x1:Nat}{pos:Pos}(a b z TI TO i1 i2:Addr)(D:ZipApart z TI TO i1 i2 a b):
  Turn P w K (.Tuple elts x1 pos) (ItzT K a b) [z,TI,TO,i1,i2] z (λi h=>IsZip h z TI TO .none/\IsPair h TI (.ref i1) (.ref i2)/\(∃c d,IsPair h TO c d)/\h.IsListIter i1 a i/\h.IsTupleIter i2 b i) where
 mem:=B
 obj:=λi h st c hc=>by
  obtain⟨hz,hTI,⟨u,v,hTO⟩,⟨o1,e1,_,d1⟩,⟨o2,e2,_,d2⟩⟩:=st;have hc':c=z\/c=TI\/c=TO\/c=i1\/c=i2:=by simpa using hc
  rcases hc' with rfl|rfl|rfl|rfl|rfl
  ·exact⟨_,hz,λv q=>by have q':Data.fields _=Data.cell v:=q;cases q'⟩
  ·exact⟨_,hTI,λv q=>by have q':Data.seq _ _=Data.cell v:=q;cases q'⟩
  ·exact⟨_,hTO,λv q=>by have q':Data.seq _ _=Data.cell v:=q;cases q'⟩
  ·exact⟨o1,e1,λv q=>by rw[d1]at q;cases q⟩
  ·exact⟨o2,e2,λv q=>by rw[d2]at q;cases q⟩
 keep:=λi h h' st k=>by obtain⟨hz,hTI,⟨u,v,hTO⟩,h1,h2⟩:=st;exact⟨k z B _ hz,k TI B _ hTI,⟨u,v,k TO B _ hTO⟩,h1.at λo e=>k i1 B o e,h2.at λo e=>k i2 B o e⟩
 item:=by
  intro X hP hw hK hc i pins s σ H E I hf st hg;subst hP hw hK;obtain⟨xs,ys,x,y,hq,hq2,hx,hy⟩:=hg;obtain⟨hz,hTI,⟨u0,v0,hTO⟩,h1,h2⟩:=st;obtain⟨its,rv,p,_⟩:=I.list hq;obtain⟨u,hu,ru⟩:=rv.get hx;obtain⟨its2,rv2,p2,_⟩:=I.tuple hq2;obtain⟨v,hv,rv'⟩:=rv2.get hy;have fz:=hf z B
  have fTO:=hf TO B;have fi1:=hf i1 B
  have fi2:=hf i2 B;have hT0:H s.heap.objs.size=none:=I.hok.fresh (Yy6 _)
  refine Zd5 D hz hTI hTO h1 h2 p.isList (show s.heap.IsTuple b its2.toArray from p2) (x:=u) (u:=v) (by simpa using hu) (by simpa using hv) λh' a1 a2 a3 a4 a5 hsz hk=>?_;have ltT:∀b ob,s.heap.get? b=some ob->b≠s.heap.objs.size:=λb ob z=>Ym (Yi z)
  have ltH:∀b ob,H b=some ob->b≠s.heap.objs.size:=λb ob z=>Ym (I.hok.lt z);have nof:∀c ob,H c=some ob->c≠z/\c≠TO/\c≠i1/\c≠i2:=λc ob q=>⟨λe=>(by rw[e,fz.1]at q;cases q),λe=>(by rw[e,fTO.1]at q;cases q),λe=>(by rw[e,fi1.1]at q;cases q),λe=>(by rw[e,fi2.1]at q;cases q)⟩
  have hkc:∀c o,c∉[z,TO,i1,i2]->s.heap.get? c=some o->h'.get? c=some o:=λc o hcx q=>hk c o (λe=>hcx<|by simp[e]) (λe=>hcx<|by simp[e]) (λe=>hcx<|by simp[e]) (λe=>hcx<|by simp[e]) q;have I1:Inv X pins σ (upd H s.heap.objs.size<|.tup [x,y]) {s with heap:=h'}:=by
   refine I.step (g':=s.gens) (d':=s.drawn) (t':=s.toks) (ch:=[z,TO,i1,i2]) (λc hb=>?_) (λc o _ _ hcx q _=>hkc c o hcx q) (λc o _ _ hcx q _=>⟨o.slots,hkc c o hcx q⟩)
    (λc o _ q n=>by rwa[Zd (ltT c o q)]) (λc o hcx q=>⟨o,hkc c o hcx q⟩) (λc ys q=>by rwa[Zd (ltH c _ q)]) (λc o v q=>by rwa[Zd (ltH c _ q)])
    (λc ps q=>⟨#[],by rw[Zd (ltH c _ q),q];simp⟩) (λm hm=>?_) (λc v' q=>?_) I.bare
   ·have hc':c=z\/c=TO\/c=i1\/c=i2:=by simpa using hb
    rcases hc' with rfl|rfl|rfl|rfl
    ·exact⟨fz.2.2.2.1,fz.2.1,fz.2.2.2.2.1,fz.2.2.2.2.2⟩
    ·exact⟨fTO.2.2.2.1,fTO.2.1,fTO.2.2.2.2.1,fTO.2.2.2.2.2⟩
    ·exact⟨fi1.2.2.2.1,fi1.2.1,fi1.2.2.2.2.1,fi1.2.2.2.2.2⟩
    ·exact⟨fi2.2.2.2.1,fi2.2.1,fi2.2.2.2.2.1,fi2.2.2.2.2.2⟩
   ·obtain⟨o,es,ep,ho',r⟩:=hm;exact⟨o,es,ep,hk _ o (YU fz.2.1) (YU fTO.2.1) (YU fi1.2.1) (YU fi2.2.1) ho',r⟩
   ·by_cases hb:c=s.heap.objs.size
    ·subst hb;rw[Zz1]at q;cases q;exact⟨by show 2<=sizeLine;decide,[u,v],.cons ru<|.cons rv' .nil,⟨_,a5,Z,_,Z⟩⟩
    ·rw[Zd hb]at q;refine(I.hok c v' q).stay (λe w' hc' q'=>?_) (λe q=>by rwa[Zd (ltH e _ q)]) λe ys q=>by rwa[Zd (ltH e _ q)]
     rcases hc' with rfl|hc'
     ·have:=nof e _ q
      exact hk e w' this.1 this.2.1 this.2.2.1 this.2.2.2 q'
     ·have:=nof e _ hc'
      exact hk e w' this.1 this.2.1 this.2.2.1 this.2.2.2 q'
  refine⟨_,Z,wpAny_letOwnedTupleGo_zip a1 λh2 hz2 hs2=>?_⟩;have fT:z≠s.heap.objs.size:=ltT z _ hz
  have I2:Inv X pins σ (upd H s.heap.objs.size<|.tup [x,y]) {s with heap:=h2}:=Inv.turned (s:={s with heap:=h'}) (h':=h2) (t':=s.toks) (it:=z) I1 (λb o hb q=>hs2.extBut b o hb q) (by rw[Zd fT];exact fz.1) fz.2.1 fz.2.2.2.1 fz.2.2.2.2.1 fz.2.2.2.2.2;refine⟨.ref s.heap.objs.size,_,I2,Z,⟨_,x,y,hT0,Z,Z,λys hy'=>by rw[I.list_inj hy' hq];exact hx,λys hy'=>by rwa[I.tuple_inj hy' hq2]⟩,
   ⟨hz2,hs2.extBut _ _ D.TIz (hkc _ _ (by have:=D.TIz;have:=D.TITO;have:=D.TIi1;have:=D.TIi2;simp;exact⟨D.TIz,D.TITO,D.TIi1,D.TIi2⟩) hTI),⟨u,v,hs2.extBut _ _ D.TOz a2⟩,a3.at λo q=>hs2.extBut i1 o D.i1z q,a4.at λo q=>hs2.extBut i2 o D.i2z q⟩,λc hc=>?_⟩
  have hc':c=z\/c=TI\/c=TO\/c=i1\/c=i2:=by simpa using hc
  have hn:=(hf c hc).1;rcases hc' with rfl|rfl|rfl|rfl|rfl
  ·rwa[Zd fT]
  ·rwa[Zd (ltT _ _ hTI)]
  ·rwa[Zd (ltT _ _ hTO)]
  ·obtain⟨o,eo,_⟩:=h1;rwa[Zd (ltT _ o eo)]
  ·obtain⟨o,eo,_⟩:=h2;rwa[Zd (ltT _ o eo)]
 done:=by
  intro X hP hw hK hc i pins s σ H E I hf st hg;subst hP hw hK;obtain⟨xs,ys,hq,hq2,hend⟩:=hg;obtain⟨hz,hTI,⟨u0,v0,hTO⟩,h1,h2⟩:=st;obtain⟨its,rv,p,_⟩:=I.list hq;obtain⟨its2,rv2,p2,_⟩:=I.tuple hq2;have l1:=rv.length
  have l2:=rv2.length;have fz:=hf z B
  have fTO:=hf TO B;have fi1:=hf i1 B
  have fi2:=hf i2 B;refine Zd6 (I.ok.hd hc) D hz hTI hTO h1 h2 p.isList (show s.heap.IsTuple b its2.toArray from p2) (by
   rcases hend with e|e
   ·exact .inl (by simp;lia)
   ·exact .inr<|by simp;lia) λh' hk=>⟨Z,?_⟩
  have hkc:∀c o,c∉[z,TO,i1,i2]->s.heap.get? c=some o->h'.get? c=some o:=λc o hcx q=>hk c o (λe=>hcx<|by simp[e]) (λe=>hcx<|by simp[e]) (λe=>hcx<|by simp[e]) (λe=>hcx<|by simp[e]) q;have nof:∀c ob,H c=some ob->c≠z/\c≠TO/\c≠i1/\c≠i2:=λc ob q=>⟨λe=>(by rw[e,fz.1]at q;cases q),λe=>(by rw[e,fTO.1]at q;cases q),λe=>(by rw[e,fi1.1]at q;cases q),λe=>(by rw[e,fi2.1]at q;cases q)⟩
  refine I.step (g':=s.gens) (d':=s.drawn) (t':=s.toks) (ch:=[z,TO,i1,i2]) (λc hb=>?_) (λc o _ _ hcx q _=>hkc c o hcx q) (λc o _ _ hcx q _=>⟨o.slots,hkc c o hcx q⟩)
   (λc o _ q n=>n) (λc o hcx q=>⟨o,hkc c o hcx q⟩) (λc ys q=>q) (λc o v q=>q)
   (λc ps q=>⟨#[],by rw[q];simp⟩) (λm hm=>?_) (λc v' q=>?_) I.bare
  ·have hc':c=z\/c=TO\/c=i1\/c=i2:=by simpa using hb
   rcases hc' with rfl|rfl|rfl|rfl
   ·exact⟨fz.2.2.2.1,fz.2.1,fz.2.2.2.2.1,fz.2.2.2.2.2⟩
   ·exact⟨fTO.2.2.2.1,fTO.2.1,fTO.2.2.2.2.1,fTO.2.2.2.2.2⟩
   ·exact⟨fi1.2.2.2.1,fi1.2.1,fi1.2.2.2.2.1,fi1.2.2.2.2.2⟩
   ·exact⟨fi2.2.2.2.1,fi2.2.1,fi2.2.2.2.2.1,fi2.2.2.2.2.2⟩
  ·obtain⟨o,es,ep,ho',r⟩:=hm;exact⟨o,es,ep,hk _ o (YU fz.2.1) (YU fTO.2.1) (YU fi1.2.1) (YU fi2.2.1) ho',r⟩
  ·refine(I.hok c v' q).stay (λe w' hc' q'=>?_) (λe q=>q) λe ys q=>q;rcases hc' with rfl|hc'
   ·have:=nof e _ q
    exact hk e w' this.1 this.2.1 this.2.2.1 this.2.2.2 q'
   ·have:=nof e _ hc'
    exact hk e w' this.1 this.2.1 this.2.2.1 this.2.2.2 q'
 self:=λ_ _ _ _ _ st h=>Y1O st.1 h
noncomputable def ItzK(K:PySem.W.Frag)(kd:Bool)(a b:Addr):It:=match kd with
 |false=>Itz K a b
 |true=>ItzT K a b
noncomputable def ZA14(K:PySem.W.Frag)(ta:TA):TI:=λσ H R=>ta σ H λvs H1=>∃a b kd,vs=[.ref a,.ref b]/\(∃xs ys,SqL K H1 a xs/\My.SqK kd K H1 b ys)/\R (ItzK K kd a b) H1
section
variable{prog:Program}{w:World}{A:Around}{E:Value->Shared->Prop}{s:Shared}
theorem ZT7{Q:Value->Shared->Prop}(hl:s.heap.IsList l xs)(ht:s.heap.IsTuple t us)
  (q:∀h',IsZip h' (s.heap.objs.size+4) (s.heap.objs.size+2) (s.heap.objs.size+3) .none->IsPair h' (s.heap.objs.size+2) (.ref s.heap.objs.size) (.ref<|s.heap.objs.size+1)->IsPair h' (s.heap.objs.size+3) .none .none->
   h'.IsListIter s.heap.objs.size l 0->h'.IsTupleIter (s.heap.objs.size+1) t 0->(∀c o,s.heap.get? c=some o->h'.get? c=some o)->Q (.ref<|s.heap.objs.size+4) {s with heap:=h'}):
  wpAny (model prog w) A (call (.type "zip") [.ref l,.ref t]) Q E s:=by
 refine callType_new F.called_zip J (F.typeCall_zip_2 _ _) (F.newCall_zip_2 _ _) (λo=>F.args_object_init_3 o _ _) F.entry_zip_new (ZR8 l t xs us) ⟨hl,ht,?_⟩;obtain⟨h,eh⟩:∃h,h=s.heap:=⟨_,Z⟩;rw[<-eh]at q ⊢;have at':∀(g:Heap)(o:Obj)(n:Nat),g.objs.size=n->o.isFreed=false->(g.push o).get? n=some o:=λg o n e ho=>by subst e;exact Yk _ ho
 have sz:∀(g:Heap)(o:Obj)(n:Nat),g.objs.size=n->(g.push o).objs.size=n+1:=λg o n e=>by rw[Y0n,e]
 have up:∀(g:Heap)(o o':Obj)(c:Addr),g.get? c=some o->(g.push o').get? c=some o:=λg o o' c e=>Yy5 _ e;have g0:(zH h l t).get? h.objs.size=some {cls:=.type "list_iterator",data:=.fields #[.ref l,.int 0 0]}:=up _ _ _ _ (up _ _ _ _<|up _ _ _ _<|up _ _ _ _<|at' _ _ _ Z Z)
 have g1:(zH h l t).get? (h.objs.size+1)=some {cls:=.type "tuple_iterator",data:=.fields #[.ref t,.int 0 0]}:=up _ _ _ _ (up _ _ _ _<|up _ _ _ _<|at' _ _ _ (sz _ _ _ Z) Z);have g2:IsPair (zH h l t) (h.objs.size+2) (.ref h.objs.size) (.ref<|h.objs.size+1):=up _ _ _ _ (up _ _ _ _<|at' _ _ _ (sz _ _ _<|sz _ _ _ Z) Z)
 have g3:IsPair (zH h l t) (h.objs.size+3) .none .none:=up _ _ _ _ (at' _ _ _ (sz _ _ _<|sz _ _ _<|sz _ _ _ Z) Z);have g4:IsZip (zH h l t) (h.objs.size+4) (h.objs.size+2) (h.objs.size+3) .none:=at' _ _ _ (sz _ _ _<|sz _ _ _<|sz _ _ _<|sz _ _ _ Z) rfl
 exact⟨⟨_,g4,Z⟩,q _ g4 g2 g3 ⟨_,g0,Z,Z⟩ ⟨_,g1,Z,Z⟩ λc o e=>up _ _ _ _<|up _ _ _ _<|up _ _ _ _<|up _ _ _ _<|up _ _ _ _ e⟩
end
section
variable{X:Cx}
theorem Zd11 (K:PySem.W.Frag) {elts:List Expr} {x1:Nat} {tpos:Pos} {e f:Expr} {ta:TA} {p pos:Pos} (hg:Gl X "zip") (hm:X.mg "zip"=none) (ha:PA X [e,f] ta) (hs:starEach [e,f] X.env=(false,eval e X.env)::starEach [f] X.env:=by rfl) (hpl:(backTo pos<|starEach [f] X.env).any (·.1)=false:=by rfl) (hk:X.K=K:=by rfl):
  PI X (.Tuple elts x1 tpos) (.Call (.Name "zip" p) [e,f] [] pos) (ZA14 K ta):=by
 subst hk;intro pins s σ H R I h;refine Call_ (Zw2 I hg hm Boot.«zip»<|Yy08 (thn (ha pos pins s σ H _ I h) λus s1 hz0=>?_) hs hpl);obtain⟨vs,H1,I1,r1,q1⟩:=hz0;obtain⟨a,b,kd,ev,⟨xs,ys,hq,hq2⟩,q⟩:=q1;subst ev;obtain⟨u,u',rfl,ru,ru'⟩:=ZB12 r1;obtain rfl:u=Value.ref a:=ru;obtain rfl:u'=Value.ref b:=ru';have key:∀n x y:Nat,x<n->y<n->ZipApart (n+4) (n+2) (n+3) n (n+1) x y:=λn x y h1 h2=>by constructor<;>(intro q;have q':(_:Nat)=_:=q;lia)
 have hfr:∀c∈[s1.heap.objs.size+4,s1.heap.objs.size+2,s1.heap.objs.size+3,s1.heap.objs.size,s1.heap.objs.size+1],s1.heap.objs.size<=c:=λc hc=>by
  have hc':c=s1.heap.objs.size+4\/c=s1.heap.objs.size+2\/c=s1.heap.objs.size+3\/c=s1.heap.objs.size\/c=s1.heap.objs.size+1:=by simpa using hc
  rcases hc' with e|e|e|e|e<;>rw[e]<;>first|exact Yy6 _|exact Y2M _ _
 obtain⟨its,rv,pl,_⟩:=I1.list hq;have lt1:a<s1.heap.objs.size:=by obtain⟨_,_,e,_⟩:=pl;exact Yi e
 cases kd with
 |false=>
  obtain⟨its2,rv2,pl2,_⟩:=I1.list hq2;have lt2:b<s1.heap.objs.size:=by obtain⟨_,_,e,_⟩:=pl2;exact Yi e
  have D:=key _ _ _ lt1 lt2;refine call_zip_2 pl.isList pl2.isList λh' hz hTI hTO hi1 hi2 hsz hk=>?_;refine Y1O (s:={s1 with heap:=h'}) hz ?_;exact⟨s1.heap.objs.size+4,[s1.heap.objs.size+4,s1.heap.objs.size+2,s1.heap.objs.size+3,s1.heap.objs.size,s1.heap.objs.size+1],_,_,H1,Z,I1.kept (t':=s1.toks) hk,ZA5 a b _ _ _ _ _ D,⟨hz,hTI,⟨_,_,hTO⟩,hi1,hi2⟩,λc hc=>I1.fpOk (hfr c hc)<|I1.hok.fresh<|hfr c hc,q⟩
 |true=>
  obtain⟨its2,rv2,pl2,_⟩:=I1.tuple hq2;have pT:s1.heap.IsTuple b its2.toArray:=pl2
  have lt2:b<s1.heap.objs.size:=by obtain⟨_,e,_⟩:=pT;exact Yi e
  have D:=key _ _ _ lt1 lt2;refine ZT7 pl.isList pT λh' hz hTI hTO hi1 hi2 hk=>?_;refine Y1O (s:={s1 with heap:=h'}) hz ?_;exact⟨s1.heap.objs.size+4,[s1.heap.objs.size+4,s1.heap.objs.size+2,s1.heap.objs.size+3,s1.heap.objs.size,s1.heap.objs.size+1],_,_,H1,Z,I1.kept (t':=s1.toks) hk,Zd7 a b _ _ _ _ _ D,⟨hz,hTI,⟨_,_,hTO⟩,hi1,hi2⟩,λc hc=>I1.fpOk (hfr c hc)<|I1.hok.fresh<|hfr c hc,q⟩
end
end L2
namespace My
open PySem L2
theorem ItzK.go{i:Nat}{x y:V}(h1:SqL K H a xs)(h2:SqK kd K H b ys)(hx:xs[i]?=some x)(hy:ys[i]?=some y):(ItzK K kd a b).go i H:=by cases kd<;>exact⟨xs,ys,x,y,h1,h2,hx,hy⟩
theorem ItzK.stop{i:Nat}(h1:SqL K H a xs)(h2:SqK kd K H b ys)(h:xs.length<=i):(ItzK K kd a b).stop i H:=by cases kd<;>exact⟨xs,ys,h1,h2,.inl h⟩
theorem ItzK.yld{i:Nat}{H H':Hp}{v:V}(h1:SqL K H a xs)(h2:SqK kd K H b ys)(h:(ItzK K kd a b).yld i H v H'):∃T x y,H T=none/\v=.ref T/\H'=upd H T (.tup [x,y])/\xs[i]?=some x/\ys[i]?=some y:=by
 cases kd with
 |false=>
  obtain⟨T,x,y,a1,a2,a3,a4,a5⟩:=h;exact⟨T,x,y,a1,a2,a3,a4 _ h1,a5 _ h2⟩
 |true=>
  obtain⟨T,x,y,a1,a2,a3,a4,a5⟩:=h;exact⟨T,x,y,a1,a2,a3,a4 _ h1,a5 _ h2⟩
theorem Zb10{g:TG}{tb:TS}{D:Ends}(hxy:xs.length=ys.length)(Pv:Nat->St->Hp->Prop)(h0:Pv 0 σ H)(hl:∀i σ H,i<=xs.length->Pv i σ H->SqL K H a xs/\SqK kd K H b ys)
  (hs:∀(i:Nat) x y σ H (p:Addr),H p=none->xs[i]?=some x->ys[i]?=some y->Pv i σ H->g (.ref p) σ (upd H p<|.tup [x,y]) λσ2 H2=>tb {D with nx:=Pv<|i+1,ct:=Pv<|i+1,bk:=D.nx} σ2 H2)(hd:∀σ H,Pv xs.length σ H->D.nx σ H):
  ∃W:Nat->Nat->St->Hp->Prop,(∃m,W 0 m σ H)/\∀i m σ H,W i m σ H->
   ((ItzK K kd a b).stop i H/\D.nx σ H)\/((ItzK K kd a b).go i H/\∃N:St->Hp->Prop,(∀σ' H',N σ' H'->∃m',m'<m/\W (i+1) m' σ' H')/\∀x H',(ItzK K kd a b).yld i H x H'->g x σ H' λσ2 H2=>tb {D with nx:=N,ct:=N,bk:=D.nx} σ2 H2):=by
 refine⟨λi m σ H=>m=xs.length-i/\i<=xs.length/\Pv i σ H,⟨xs.length,B,Yr _,h0⟩,?_⟩;rintro i m σ H ⟨rfl,hi,p⟩;obtain⟨q,q2⟩:=hl i σ H hi p;by_cases hlt:i<xs.length
 ·refine .inr ⟨ItzK.go q q2 (Yy0 hlt)<|Yy0 O,Pv<|i+1,λσ' H' p'=>⟨xs.length-(i+1),XR,Z,hlt,p'⟩,λx H' hy=>?_⟩;obtain⟨T,u,v,hT,ex,eH,hu,hv⟩:=ItzK.yld q q2 hy;subst ex eH;exact hs i u v σ H T hT hu hv p
 ·have e:i=xs.length:=O;subst e;exact .inl ⟨ItzK.stop q q2<|Yy6 _,hd σ H p⟩
noncomputable def ev(b:Int):List Int->Int
 |[]=>0
 |d::l=>d+b*ev b l
theorem Zg7(l:List Int)(x:Int):(l++[x]).sum=l.sum+x:=by
 induction l with
 |nil=>show x+0=0+x;lia
 |cons y l ih=>show y+(l++[x]).sum=y+l.sum+x;lia
theorem Zn3:∀es:List (Nat×Nat),InN n es->∀i,i<n->0<=mk (pms n es) i/\mk (pms n es) i<=(i:Int)/\mk (pms n es) (mk (pms n es) i).toNat=mk (pms n es) i:=by
 refine Zi1 (λ_ i hi=>?_) λes e ih h=>?_
 ·have e:mk (pms n []) i=(i:Int):=ZT1 hi;rw[e,YA];exact⟨O,Y0B _,e⟩
 ·obtain⟨h1,h2,h3⟩:=h.snoc;have ih:=ih h1
  intro i hi;rw[ZY5];have hl:=Zt n es
  generalize pms n es=M at *;obtain⟨i1,i2,i3⟩:=ih i hi;obtain⟨a1,a2,a3⟩:=ih e.1 h2;obtain⟨b1,b2,b3⟩:=ih e.2 h3;unfold pm;by_cases c:min (mk M e.1) (mk M e.2)<max (mk M e.1) (mk M e.2)
  ·rw[if_pos c];obtain⟨lo,hlo⟩:∃lo,lo=min (mk M e.1) (mk M e.2):=⟨_,Z⟩;obtain⟨hi',hhi⟩:∃hi',hi'=max (mk M e.1) (mk M e.2):=⟨_,Z⟩;rw[<-hlo,<-hhi]at c ⊢;have lown:mk M lo.toNat=lo:=by
    rcases Int.le_total (mk M e.1) (mk M e.2) with q|q
    ·rwa[hlo,Yy34 q]
    ·rwa[hlo,Y2Q q]
   have lb:0<=lo/\lo<(n:Int):=by
    rcases Int.le_total (mk M e.1) (mk M e.2) with q|q
    ·rw[hlo,Yy34 q];grind
    ·rw[hlo,Y2Q q];grind
   rw[ZY3 _ _ O];by_cases d:mk M i=hi'
   ·rw[if_pos d,ZY3 _ _ XR,lown,if_neg O];grind
   ·rw[if_neg d,ZY3 _ _ XR,i3,if_neg d];exact⟨i1,i2,Z⟩
  ·rw[if_neg c];exact⟨i1,i2,i3⟩
section
variable{n:Nat}{es:List (Nat×Nat)}(h:InN n es)
include h
theorem ZQ3(hi:i<n):Conn es i (mk (pms n es) i).toNat:=by obtain⟨a,b,c⟩:=Zn3 es h i hi;exact(Zo3 h hi XR).mp c.symm
theorem ZQ2(hi:i<n)(hj:j<n)(c:Conn es i j):mk (pms n es) i<=(j:Int):=by rw[(Zo3 h hi hj).mpr c];exact(Zn3 es h j hj).2.1
end
theorem ZU4{φ:Nat->Prop}(h:∀e∈es,(φ e.1↔φ e.2))(c:Conn es i j):φ i↔φ j:=by
 induction c with
 |refl i=>exact Iff.rfl
 |edge q=>exact h _ q
 |symm _ ih=>exact ih.symm
 |trans _ _ i1 i2=>exact i1.trans i2
theorem Zr10(f:Nat->Nat)(h:∀e∈es,Conn fs (f e.1) (f e.2))(c:Conn es i j):Conn fs (f i) (f j):=by
 induction c with
 |refl i=>exact .refl _
 |edge e=>exact h _ e
 |symm _ ih=>exact ih.symm
 |trans _ _ ih1 ih2=>exact ih1.trans ih2
theorem ZC11(f:Int->Int):∀{l:List Int},l≠[]->∃m∈l,∀z∈l,f z<=f m
 |[x],_=>⟨x,B,λz hz=>by rw[Yy2.mp hz];exact Y0B _⟩
 |x::y::l,_=>by
  obtain⟨m,hm,q⟩:=ZC11 f (l:=y::l) B;by_cases c:f m<=f x
  ·exact⟨x,B,λz hz=>by
    rcases Ye.mp hz with r|r
    ·rw[r];exact Y0B _
    ·exact Y1W (q z r) c⟩
  ·exact⟨m,Yc _ hm,λz hz=>by
    rcases Ye.mp hz with r|r
    ·rw[r];lia
    ·exact q z r⟩
noncomputable abbrev lnz(ls:List Int)(z:Int):Int:=ls.getD z.toNat 0
noncomputable def lwS(ls:List Int)(x:Int):List Int:=(rgL ls.length).filter λz=>decide (lnz ls z<x)
noncomputable def leS(ls:List Int)(x:Int):List Int:=(rgL ls.length).filter λz=>decide (lnz ls z<=x)
theorem lwS_mem:z∈lwS ls x↔(0<=z/\z<(ls.length:Int))/\lnz ls z<x:=by unfold lwS;rw[Yy,rgL_mem,YT]
theorem leS_mem:z∈leS ls x↔(0<=z/\z<(ls.length:Int))/\lnz ls z<=x:=by unfold leS;rw[Yy,rgL_mem,YT]
theorem ZZ3(h:y<x)(hz:z∈lwS ls x)(hy:lnz ls z=y):(lwS ls y).length<(lwS ls x).length:=by
 have hn:∀x,(lwS ls x).Nodup:=λx=>(Zn6<|ZT5 _).filter _;have hz2:z∉lwS ls y:=λc=>by have:=(lwS_mem.mp c).2;lia
 exact ZE5 (l:=z::lwS ls y) (Y0r.mpr ⟨hz2,hn y⟩) λw hw=>by
  rcases Ye.mp hw with r|r
  ·exact r▸hz
  ·have q:=lwS_mem.mp r;exact lwS_mem.mpr ⟨q.1,O⟩
noncomputable def mA(N:Nat)(ps:List (Int×Int))(ls:List Int)(x:Int):List Int:=pms N (Za ps<|lwS ls x)
noncomputable def mB(N:Nat)(ps:List (Int×Int))(ls:List Int)(x:Int):List Int:=pms N (Za ps<|leS ls x)
noncomputable def spt(N:Nat)(ps:List (Int×Int))(ls:List Int)(x:Int)(i:Nat):Int:=if mk (mA N ps ls x) i=mk (mB N ps ls x) i then 0 else mk (mA N ps ls x) i
noncomputable def cwT(N:Nat)(ps:List (Int×Int))(ls:List Int):List (Int×Int):=(List.range ps.length).map λi=>(spt N ps ls (ls.getD i 0) (ps.getD i (0,0)).1.toNat,spt N ps ls (ls.getD i 0) (ps.getD i (0,0)).2.toNat)
theorem ZS4(N:Nat)(ps:List (Int×Int))(ls:List Int):(cwT N ps ls).length=ps.length:=by unfold cwT;rw[Yy9,YK]
theorem Zo10(h0:0<=z)(h1:z<(ps.length:Int)):ZF (cwT N ps ls) z=((spt N ps ls (lnz ls z) (ZF ps z).1).toNat,(spt N ps ls (lnz ls z) (ZF ps z).2).toNat):=by
 have e:(cwT N ps ls).getD z.toNat (0,0)=(spt N ps ls (lnz ls z) (ZF ps z).1,spt N ps ls (lnz ls z) (ZF ps z).2):=by unfold cwT;rw[Yy7,Yg,Y0G O];rfl
 unfold ZF at *;rw[e]
section
variable{n:Int}{ps:List (Int×Int)}{ls T:List Int}(g:ZL n ps)(hl:ls.length=ps.length)
include g hl
theorem inA(x:Int):InN n.toNat (Za ps (lwS ls x)):=ZV g λz hz=>by have:=(lwS_mem.mp hz).1;lia
theorem inB(x:Int):InN n.toNat (Za ps (leS ls x)):=ZV g λz hz=>by have:=(leS_mem.mp hz).1;omega
theorem ownA(x:Int)(hi:i<n.toNat):0<=mk (mA n.toNat ps ls x) i/\mk (mA n.toNat ps ls x) i<=(i:Int)/\mk (mA n.toNat ps ls x) (mk (mA n.toNat ps ls x) i).toNat=mk (mA n.toNat ps ls x) i:=Zn3 _ (inA g hl x) i hi
theorem ownB(x:Int)(hi:i<n.toNat):0<=mk (mB n.toNat ps ls x) i/\mk (mB n.toNat ps ls x) i<=(i:Int)/\mk (mB n.toNat ps ls x) (mk (mB n.toNat ps ls x) i).toNat=mk (mB n.toNat ps ls x) i:=Zn3 _ (inB g hl x) i hi
theorem ZK12(x:Int)(hi:i<n.toNat):Conn (Za ps (lwS ls x)) i (mk (mA n.toNat ps ls x) i).toNat:=ZQ3 (inA g hl x) hi
theorem ZD13(x:Int)(hi:i<n.toNat):Conn (Za ps (leS ls x)) i (mk (mB n.toNat ps ls x) i).toNat:=ZQ3 (inB g hl x) hi
theorem iffA(x:Int)(hi:i<n.toNat)(hj:j<n.toNat):mk (mA n.toNat ps ls x) i=mk (mA n.toNat ps ls x) j↔Conn (Za ps (lwS ls x)) i j:=Zo3 (inA g hl x) hi hj
theorem iffB(x:Int)(hi:i<n.toNat)(hj:j<n.toNat):mk (mB n.toNat ps ls x) i=mk (mB n.toNat ps ls x) j↔Conn (Za ps (leS ls x)) i j:=Zo3 (inB g hl x) hi hj
theorem Zn13(x:Int){i j:Nat}(hi:i<n.toNat)(hj:j<n.toNat)(c:Conn (Za ps (lwS ls x)) i j):mk (mA n.toNat ps ls x) i<=(j:Int):=ZQ2 (inA g hl x) hi hj c
theorem ZU9(x:Int){i j:Nat}(hi:i<n.toNat)(hj:j<n.toNat)(c:Conn (Za ps (leS ls x)) i j):mk (mB n.toNat ps ls x) i<=(j:Int):=ZQ2 (inB g hl x) hi hj c
theorem Zz39(x:Int){i j:Nat}(c:Conn (Za ps (lwS ls x)) i j):Conn (Za ps (leS ls x)) i j:=c.mono (ZG λz hz=>by have:=lwS_mem.mp hz;exact leS_mem.mpr ⟨this.1,O⟩)
theorem ZV12(h:y<x){i j:Nat}(c:Conn (Za ps (leS ls y)) i j):Conn (Za ps (lwS ls x)) i j:=c.mono (ZG λz hz=>by have:=leS_mem.mp hz;exact lwS_mem.mpr ⟨this.1,XT⟩)
theorem ZK7(hv:v<n.toNat)(a1:mk (mA n.toNat ps ls x) v=v)(b1:mk (mB n.toNat ps ls x) v≠v)(a2:mk (mA n.toNat ps ls y) v=v)(b2:mk (mB n.toNat ps ls y) v≠v):x=y:=by
 have key:∀x y:Int,y<x->mk (mA n.toNat ps ls x) v=v->mk (mB n.toNat ps ls y) v≠v->False:=λx y h a b=>by
  obtain⟨o1,o2,_⟩:=ownB g hl y hv
  have:=Zn13 g hl x hv XR (ZV12 g hl h<|ZD13 g hl y hv)
  lia
 rcases Int.lt_trichotomy x y with c|c|c
 ·exact(key y x c a2 b1).elim
 ·exact c
 ·exact(key x y c a1 b2).elim
theorem Zj7(hi:i<n.toNat):0<=spt n.toNat ps ls x i/\spt n.toNat ps ls x i<n/\(spt n.toNat ps ls x i≠0->spt n.toNat ps ls x i=mk (mA n.toNat ps ls x) i/\mk (mA n.toNat ps ls x) (spt n.toNat ps ls x i).toNat=spt n.toNat ps ls x i/\mk (mB n.toNat ps ls x) (spt n.toNat ps ls x i).toNat≠spt n.toNat ps ls x i):=by
 obtain⟨o1,o2,o3⟩:=ownA g hl x hi;unfold spt;by_cases c:mk (mA n.toNat ps ls x) i=mk (mB n.toNat ps ls x) i
 ·rw[if_pos c];exact⟨Y0B _,O,λh=>absurd Z h⟩
 ·rw[if_neg c];refine⟨o1,O,λ_=>⟨Z,o3,λe=>c ?_⟩⟩;rw[<-e];exact(iffB g hl x O hi).mpr (Zz39 g hl x<|ZK12 g hl x hi).symm
theorem ZK8:ZL n (cwT n.toNat ps ls):=by
 obtain⟨g1,g2,g3,g4⟩:=id g;refine⟨g1,g2,by rw[ZS4];exact g3,λp hp=>?_⟩;unfold cwT at hp;obtain⟨i,hi,rfl⟩:=Yt.mp hp;have hi:=YE.mp hi
 have he:=ZE1 (z:=(i:Int)) g O O;unfold ZF at he;rw[YA]at he;have h1:=Zj7 g hl (x:=ls.getD i 0) he.1
 have h2:=Zj7 g hl (x:=ls.getD i 0) he.2;exact⟨h1.1,h1.2.1,h2.1,h2.2.1⟩
theorem ZW6(hT:Zo n (cwT n.toNat ps ls) T):∀k x,(lwS ls x).length=k->∀a,a<n.toNat->Conn (Za ps (T.filter λz=>decide (lnz ls z<=x))) a (mk (mB n.toNat ps ls x) a).toNat:=by
 intro k
 induction k using Nat.strongRecOn with
 |ind k ih=>
  intro x hk;obtain⟨t1,t2,t3⟩:=id hT;rw[ZS4]at t1;have tm:∀{y z:Int},z∈T.filter (λz=>decide<|lnz ls z<=y)↔z∈T/\lnz ls z<=y:=by intro y z;rw[Yy,YT]
  have low:∀{i j:Nat},Conn (Za ps<|lwS ls x) i j->Conn (Za ps<|T.filter λz=>decide<|lnz ls z<=x) i j:=λc=>c.lift λe he=>by
   obtain⟨z,hz,rfl⟩:=Yt.mp he;have q:=lwS_mem.mp hz
   have hz2:z∈leS ls (lnz ls z):=leS_mem.mpr ⟨q.1,Y0B _⟩;have ee:=ZE1 (z:=z) g q.1.1 O
   have i1:=ih _ (by rw[<-hk];exact ZZ3 q.2 hz Z) (lnz ls z) Z _ ee.1;have i2:=ih _ (by rw[<-hk];exact ZZ3 q.2 hz Z) (lnz ls z) Z _ ee.2
   have e1:mk (mB n.toNat ps ls<|lnz ls z) (ZF ps z).1=mk (mB n.toNat ps ls<|lnz ls z) (ZF ps z).2:=(iffB g hl _ ee.1 ee.2).mpr (.edge<|Yt.mpr ⟨z,hz2,Z⟩);rw[e1]at i1;exact(i1.trans i2.symm).mono (ZG λw hw=>by have:=tm.mp hw;exact tm.mpr ⟨this.1,O⟩)
  have atA:∀a,a<n.toNat->Conn (Za ps<|T.filter λz=>decide<|lnz ls z<=x) a (mk (mA n.toNat ps ls x) a).toNat:=λa ha=>low (ZK12 g hl x ha);have bA:∀a,a<n.toNat->mk (mB n.toNat ps ls x) (mk (mA n.toNat ps ls x) a).toNat=mk (mB n.toNat ps ls x) a:=λa ha=>by have o:=ownA g hl x ha;exact(iffB g hl x O ha).mpr (Zz39 g hl x<|ZK12 g hl x ha).symm
  obtain⟨φ,hφ⟩:∃φ:Nat->Prop,φ=λw=>w<n.toNat->mk (mA n.toNat ps ls x) w=w->mk (mB n.toNat ps ls x) w≠w->Conn (Za ps<|T.filter λz=>decide<|lnz ls z<=x) w (mk (mB n.toNat ps ls x) w).toNat:=⟨_,Z⟩;have phi0:φ 0:=by
   rw[hφ];intro h1 _ h3
   have:=ownB g hl x h1
   exact absurd O h3
  have other:∀y a,a<n.toNat->y≠x->φ (spt n.toNat ps ls y a).toNat:=λy a ha hy=>by
   obtain⟨q0,q1,q2⟩:=Zj7 g hl (x:=y) ha;by_cases c:spt n.toNat ps ls y a=0
   ·rwa[c]
   ·obtain⟨_,q3,q4⟩:=q2 c;rw[hφ];intro h1 h2 h3;exact absurd (ZK7 g hl (v:=(spt n.toNat ps ls y a).toNat) O (by rw[q3];omega) (λe=>q4<|by rw[e];omega) h2 h3) hy
  have own:∀a,a<n.toNat->(φ (spt n.toNat ps ls x a).toNat↔Conn (Za ps<|T.filter λz=>decide<|lnz ls z<=x) a (mk (mB n.toNat ps ls x) a).toNat):=λa ha=>by
   by_cases c:mk (mA n.toNat ps ls x) a=mk (mB n.toNat ps ls x) a
   ·have e:spt n.toNat ps ls x a=0:=by unfold spt;rw[if_pos c]
    rw[e];refine⟨λ_=>?_,λ_=>phi0⟩
    have:=atA a ha
    rwa[c]at this
   ·have e:spt n.toNat ps ls x a=mk (mA n.toNat ps ls x) a:=by unfold spt;rw[if_neg c]
    obtain⟨o1,o2,o3⟩:=ownA g hl x ha;have ba:=bA a ha
    rw[e,hφ];show(_->_->_->Conn _ _ _)↔_
    rw[ba];constructor
    ·intro h;exact(atA a ha).trans (h XT (by rw[o3];omega) λe2=>c<|by rw[e2];omega)
    ·intro h _ _ _;exact(atA a ha).symm.trans h
  have all:∀w,w<n.toNat->φ w:=λw hw=>by
   refine(ZU4 (φ:=φ) (λe he=>?_)<|t3 0 w XT hw).mp phi0;obtain⟨z,hz,rfl⟩:=Yt.mp he;have zb:=t1.all z hz
   have ee:=ZE1 (z:=z) g zb.1 zb.2;show φ (ZF (cwT n.toNat ps ls) z).1↔φ (ZF (cwT n.toNat ps ls) z).2
   rw[Zo10 zb.1 zb.2];show φ (spt _ _ _ _ _).toNat↔φ (spt _ _ _ _ _).toNat
   by_cases c:lnz ls z=x
   ·rw[c,own _ ee.1,own _ ee.2];have ce:Conn (Za ps<|T.filter λz=>decide<|lnz ls z<=x) (ZF ps z).1 (ZF ps z).2:=.edge (Yt.mpr ⟨z,tm.mpr ⟨hz,XT⟩,Z⟩)
    have e1:mk (mB n.toNat ps ls x) (ZF ps z).1=mk (mB n.toNat ps ls x) (ZF ps z).2:=(iffB g hl _ ee.1 ee.2).mpr (.edge<|Yt.mpr ⟨z,leS_mem.mpr ⟨⟨zb.1,XT⟩,XT⟩,Z⟩);rw[e1];exact⟨λh=>ce.symm.trans h,λh=>ce.trans h⟩
   ·exact⟨λ_=>other _ _ ee.2 c,λ_=>other _ _ ee.1 c⟩
  intro a ha;obtain⟨o1,o2,o3⟩:=ownA g hl x ha;have ba:=bA a ha
  have c1:=atA a ha;by_cases c:mk (mB n.toNat ps ls x) (mk (mA n.toNat ps ls x) a).toNat=mk (mA n.toNat ps ls x) a
  ·rwa[<-ba,c]
  ·have:=all (mk (mA n.toNat ps ls x) a).toNat XT
   rw[hφ]at this
   have:=this XT (by rw[o3];omega) (λe=>c<|by rw[e];omega)
   rw[ba]at this;exact c1.trans this
end
noncomputable def LvT(n:Int)(ps:List (Int×Int))(ls T:List Int):Prop:=∀x i j,i<n.toNat->j<n.toNat->Conn (Za ps<|leS ls x) i j->Conn (Za ps<|T.filter λz=>decide<|lnz ls z<=x) i j
noncomputable def NoG(n:Int)(ps:List (Int×Int))(ls T:List Int):Prop:=∀o z,exg n ps T o z->lnz ls o<=lnz ls z
theorem ZE11(ls:List Int):∃U:Int,∀z:Int,lnz ls z<=U:=by
 have h:∀l:List Int,∃U:Int,∀i:Nat,l.getD i 0<=U:=by
  intro l
  induction l with
  |nil=>exact⟨0,λi=>B⟩
  |cons x l ih=>
   obtain⟨U,hU⟩:=ih;refine⟨max x U,λi=>?_⟩;cases i with
   |zero=>show x<=_;lia
   |succ i=>have:=hU i;show l.getD i 0<=_;grind
 obtain⟨U,hU⟩:=h ls;exact⟨U,λz=>hU z.toNat⟩
section
variable{n:Int}{ps:List (Int×Int)}{ls T:List Int}(g:ZL n ps)(hl:ls.length=ps.length)
include g hl
theorem ZI14(hT:Zo n (cwT n.toNat ps ls) T):LvT n ps ls T:=λx i j hi hj c=>by
 have h1:=ZW6 g hl hT _ x Z i hi;have h2:=ZW6 g hl hT _ x Z j hj
 rw[(iffB g hl x hi hj).mpr c]at h1;exact h1.trans h2.symm
theorem ZS13(hT:Zo n (cwT n.toNat ps ls) T):Zo n ps T:=by
 obtain⟨t1,t2,t3⟩:=id hT;rw[ZS4]at t1;obtain⟨U,hU⟩:=ZE11 ls;have zero:∀a,a<n.toNat->mk (mB n.toNat ps ls U) a=0:=λa ha=>by
  obtain⟨o1,o2,o3⟩:=ownB g hl U ha;refine YS λno=>?_;obtain⟨v,hv⟩:∃v:Nat,v=(mk (mB n.toNat ps ls U) a).toNat:=⟨_,Z⟩;have v0:v≠0:=O
  have vn:v<n.toNat:=O;have ov:mk (mB n.toNat ps ls U) v=(v:Int):=by rw[hv,o3];lia
  have st:=ZU4 (φ:=λw=>w≠v) (λe he=>by
   obtain⟨z,hz,rfl⟩:=Yt.mp he;have zb:=t1.all z hz
   have ee:=ZE1 (z:=z) g zb.1 zb.2;show(ZF (cwT n.toNat ps ls) z).1≠v↔(ZF (cwT n.toNat ps ls) z).2≠v
   rw[Zo10 zb.1 zb.2];have key:∀c,c<n.toNat->(spt n.toNat ps ls (lnz ls z) c).toNat≠v:=λc hc e=>by
    obtain⟨q0,q1,q2⟩:=Zj7 g hl (x:=lnz ls z) hc;obtain⟨_,q3,q4⟩:=q2 XR;rw[e]at q3 q4;have ov2:=ownB g hl (lnz ls z) vn
    have cb:=ZD13 g hl (lnz ls z) vn;have cu:Conn (Za ps<|leS ls U) v (mk (mB n.toNat ps ls<|lnz ls z) v).toNat:=cb.mono (ZG λy hy=>by have:=leS_mem.mp hy;exact leS_mem.mpr ⟨this.1,hU y⟩)
    have:=ZU9 g hl U vn O cu
    lia
   exact⟨λ_=>key _ ee.2,λ_=>key _ ee.1⟩) (t3 0 v O vn)
  exact(st.mp<|YU v0) rfl
 refine⟨t1,t2,?_⟩;have key:∀a,a<n.toNat->Conn (Za ps T) a 0:=λa ha=>by have h1:=ZW6 g hl hT _ U Z a ha;rw[zero a ha]at h1;exact h1.mono (ZG λz hz=>(Yy.mp hz).1)
 exact λi j hi hj=>(key i hi).trans (key j hj).symm
theorem ZT9(hv:v<n.toNat):∀k x,(lwS ls x).length=k->mk (mB n.toNat ps ls x) v≠v->∃y,mk (mA n.toNat ps ls y) v=v/\mk (mB n.toNat ps ls y) v≠v:=by
 intro k
 induction k using Nat.strongRecOn with
 |ind k ih=>
  intro x hk hb;by_cases c:mk (mA n.toNat ps ls x) v=v
  ·exact⟨x,c,hb⟩
  ·have ne:lwS ls x≠[]:=λe=>c (by unfold mA;rw[e];exact ZT1 hv)
   obtain⟨m,hm,q⟩:=ZC11 (lnz ls) ne;have hm2:=lwS_mem.mp hm
   have e:leS ls (lnz ls m)=lwS ls x:=by
    unfold leS lwS;refine List.filter_congr λz hz=>?_;rw[Y1c];constructor
    ·intro h;lia
    ·intro h;exact q z (lwS_mem.mpr ⟨rgL_mem.mp hz,h⟩)
   refine ih _ (by rw[<-hk];exact ZZ3 hm2.2 hm Z) (lnz ls m) Z ?_;have e2:mB n.toNat ps ls (lnz ls m)=mA n.toNat ps ls x:=by unfold mB mA;rw[e]
   rwa[e2]
theorem ZH14(hT:Zo n ps T)(hv:LvT n ps ls T):Zo n (cwT n.toNat ps ls) T:=by
 obtain⟨t1,t2,t3⟩:=id hT;obtain⟨U,hU⟩:=ZE11 ls;refine⟨by rw[ZS4];exact t1,t2,?_⟩;have tm:∀{y z:Int},z∈T.filter (λz=>decide<|lnz ls z<=y)↔z∈T/\lnz ls z<=y:=by intro y z;rw[Yy,YT]
 have key:∀v,v<n.toNat->Conn (Za (cwT n.toNat ps ls) T) v 0:=λv hvn=>by
  by_cases v0:v=0
  ·rw[v0];exact .refl _
  have bU:mk (mB n.toNat ps ls U) v≠v:=by
   have cu:Conn (Za ps<|leS ls U) v 0:=(t3 v 0 hvn O).mono (ZG λy hy=>by have:=t1.all y hy;exact leS_mem.mpr ⟨⟨this.1,O⟩,hU y⟩)
   have:=ZU9 g hl U hvn XT cu
   lia
  obtain⟨y,ya,yb⟩:=ZT9 g hl hvn _ U Z bU;obtain⟨b1,b2,b3⟩:=ownB g hl y hvn;obtain⟨u,hu⟩:∃u:Nat,u=(mk (mB n.toNat ps ls y) v).toNat:=⟨_,Z⟩;have un:u<n.toNat:=XR
  have bu:mk (mB n.toNat ps ls y) u=(u:Int):=by rw[hu,b3];lia
  have cvu:Conn (Za ps<|leS ls y) v u:=by rw[hu];exact ZD13 g hl y hvn
  have cT:=hv y v u hvn un cvu;have mp:=Zr10 (fs:=Za (cwT n.toNat ps ls) T) (λi=>(spt n.toNat ps ls y i).toNat) (λe he=>by
   obtain⟨z,hz,rfl⟩:=Yt.mp he;obtain⟨zT,zy⟩:=tm.mp hz;have zb:=t1.all z zT
   have ee:=ZE1 (z:=z) g zb.1 zb.2;show Conn _ (spt n.toNat ps ls y (ZF ps z).1).toNat (spt n.toNat ps ls y (ZF ps z).2).toNat
   by_cases c:lnz ls z=y
   ·have e:=Zo10 (N:=n.toNat) (ls:=ls) zb.1 zb.2;rw[c]at e
    have:(ZF (cwT n.toNat ps ls) z)∈Za (cwT n.toNat ps ls) T:=Yt.mpr ⟨z,zT,Z⟩
    rw[e]at this;exact .edge this
   ·have z1:z∈lwS ls y:=lwS_mem.mpr ⟨⟨zb.1,O⟩,O⟩;have z2:z∈leS ls y:=leS_mem.mpr ⟨⟨zb.1,XT⟩,zy⟩
    have ea:=(iffA g hl y ee.1 ee.2).mpr (.edge<|Yt.mpr ⟨z,z1,Z⟩);have eb:=(iffB g hl y ee.1 ee.2).mpr (.edge<|Yt.mpr ⟨z,z2,Z⟩)
    have e:spt n.toNat ps ls y (ZF ps z).1=spt n.toNat ps ls y (ZF ps z).2:=by unfold spt;rw[ea,eb]
    rw[e];exact .refl _) cT
  have sv:spt n.toNat ps ls y v=(v:Int):=by unfold spt;rw[if_neg O,ya]
  have su:spt n.toNat ps ls y u=0:=by
   obtain⟨a1,a2,a3⟩:=ownA g hl y un;have ca:=ZK12 g hl y un
   have:=ZU9 g hl y (i:=(mk (mA n.toNat ps ls y) u).toNat) (j:=(mk (mA n.toNat ps ls y) u).toNat) XR XT (.refl _)
   have e1:mk (mB n.toNat ps ls y) (mk (mA n.toNat ps ls y) u).toNat=mk (mB n.toNat ps ls y) u:=(iffB g hl y XT un).mpr (Zz39 g hl y ca).symm;unfold spt;rw[if_pos O]
  have mp:Conn (Za (cwT n.toNat ps ls) T) (spt n.toNat ps ls y v).toNat (spt n.toNat ps ls y u).toNat:=mp;rwa[sv,su]at mp
 exact λi j hi hj=>(key i hi).trans (key j hj).symm
omit hl in
theorem Zx14(hl:ls.length=ps.length)(hT:Zo n ps T)(hg:NoG n ps ls T):LvT n ps ls T:=λx i j _ _ c=>c.lift λe he=>by
 obtain⟨z,hz,rfl⟩:=Yt.mp he;obtain⟨zb,zx⟩:=leS_mem.mp hz;show Conn _ (ZF ps z).1 (ZF ps z).2
 by_cases zT:z∈T
 ·exact .edge (Yt.mpr ⟨z,Yy.mpr ⟨zT,YG zx⟩,Z⟩)
 ·refine(Zv4 g hT zb.1 O).mono (ZG λy hy=>?_);obtain⟨yT,yc⟩:=ringA_mem.mp hy
  have:=hg y z ⟨yT,λe=>zT<|e▸yT,yc⟩
  exact Yy.mpr ⟨yT,YG O⟩
theorem ZD11(hT:Zo n ps T)(hv:LvT n ps ls T):NoG n ps ls T:=λo z he=>by
 refine YS λno=>?_;obtain⟨h1,h2,h3⟩:=he;obtain⟨z0,z1⟩:=Zf3 h3;have ee:=ZE1 (z:=z) g z0 z1
 refine(Zl1 g hT z0 z1).mp h3 ?_;refine(hv (lnz ls z) _ _ ee.1 ee.2<|.edge<|Yt.mpr ⟨z,leS_mem.mpr ⟨⟨z0,O⟩,Y0B _⟩,Z⟩).mono (ZG λy hy=>?_);obtain⟨yT,yl⟩:=Yy.mp hy;have yl:=YO yl
 exact wo_mem.mpr ⟨yT,λe=>no<|by rwa[<-e]⟩
theorem Zm12:Zo n (cwT n.toNat ps ls) T↔Zo n ps T/\NoG n ps ls T:=
 ⟨λh=>⟨ZS13 g hl h,ZD11 g hl (ZS13 g hl h)<|ZI14 g hl h⟩,λh=>ZH14 g hl h.1<|Zx14 g hl h.1 h.2⟩
end
theorem Zc11(h1:InN n es)(h2:InN n fs)(h:∀i j,Conn es i j↔Conn fs i j):pms n es=pms n fs:=by
 have key:∀{es fs:List (Nat×Nat)},InN n es->InN n fs->(∀i j,Conn es i j↔Conn fs i j)->∀i,i<n->mk (pms n es) i<=mk (pms n fs) i:=λ{es fs} h1 h2 h i hi=>by
  obtain⟨o1,o2,_⟩:=Zn3 fs h2 i hi
  have:=ZQ2 h1 hi XR ((h i _).mpr (ZQ3 h2 hi))
  lia
 refine Y0V λi=>?_;by_cases c:i<n
 ·rw[ZP1 (by rwa[Zt]),ZP1 (by rwa[Zt])];exact YX some (Int.le_antisymm (key h1 h2 h i c)<|key h2 h1 (λi j=>(h i j).symm) i c)
 ·rw[YQ (by rw[Zt];lia),YQ (by rw[Zt];omega)]
noncomputable def lvl(ls:List Int)(x:Int)(i:Nat):List Int:=(rgL i).filter λz=>decide (lnz ls z=x)
theorem Zm6(ls:List Int)(x:Int)(i:Nat):lvl ls x (i+1)=lvl ls x i++(if ls.getD i 0=x then [(i:Int)] else []):=by
 unfold lvl rgL;rw[Y0q,Yz,Yy12];congr 1;have e:lnz ls (i:Int)=ls.getD i 0:=by unfold lnz;rw[YA]
 by_cases c:ls.getD i 0=x
 ·rw[if_pos c];exact Y3i (by simp only[YT];rwa[e])
 ·rw[if_neg c];exact Y3j (by simp only[YT];rwa[e])
theorem lvl_mem:z∈lvl ls x i↔(0<=z/\z<(i:Int))/\lnz ls z=x:=by unfold lvl;rw[Yy,rgL_mem,YT]
theorem Zj8(ls:List Int)(x:Int)(i:Nat):IsSet i (lvl ls x i):=isSet_iff.mpr ⟨λz hz=>(lvl_mem.mp hz).1,(ZT5 i).filter _⟩
noncomputable def cwP(N:Nat)(ps:List (Int×Int))(ls:List Int)(i:Nat):Int×Int:=(spt N ps ls (ls.getD i 0) (ps.getD i (0,0)).1.toNat,spt N ps ls (ls.getD i 0) (ps.getD i (0,0)).2.toNat)
noncomputable def mdT(N:Nat)(ps:List (Int×Int))(ls:List Int)(p:Nat->Prop)[DecidablePred p]:List (Int×Int):=(List.range ps.length).map λi=>if p i then cwP N ps ls i else ps.getD i (0,0)
theorem ZA11(N:Nat)(ps:List (Int×Int))(ls:List Int)(p:Nat->Prop)[DecidablePred p]:(mdT N ps ls p).length=ps.length:=by unfold mdT;rw[Yy9,YK]
theorem ZD4{p q:Nat->Prop}[DecidablePred p][DecidablePred q](h:∀i,i<ps.length->(p i↔q i)):mdT N ps ls p=mdT N ps ls q:=by
 unfold mdT;refine YN λi hi=>?_
 have:=h i (YE.mp hi)
 by_cases c:p i
 ·rw[if_pos c,if_pos (this.mp c)]
 ·rw[if_neg c,if_neg λd=>c (this.mpr d)]
theorem ZL9{p:Nat->Prop}[DecidablePred p](h:∀i,i<ps.length->¬p i):mdT N ps ls p=ps:=by
 unfold mdT;refine Y0V λi=>?_;rw[Yg];by_cases c:i<ps.length
 ·rw[Y0G c,Yy0 c];show some (if p i then _ else ps.getD i (0,0))=_
  rw[if_neg (h i c),Yy7,Yy0 c];rfl
 ·rw[YQ (by rw[YK];lia),YQ XT];rfl
theorem ZB11{p:Nat->Prop}[DecidablePred p](h:∀i,i<ps.length->p i):mdT N ps ls p=cwT N ps ls:=by unfold mdT cwT;refine YN λi hi=>?_;rw[if_pos (h i<|YE.mp hi)];rfl
theorem Yz11{p q:Nat->Prop}[DecidablePred p][DecidablePred q](h:∀i,i<ps.length->(q i↔p i\/i=k)):(mdT N ps ls p).set k (cwP N ps ls k)=mdT N ps ls q:=by
 unfold mdT;refine Y0V λi=>?_;rw[Yg];by_cases c:i<ps.length
 ·have hq:=h i c;rw[Y0G c];by_cases d:k=i
  ·rw[d,Y1u (by rwa[Yy9,YK])];show _=some (if q i then _ else _)
   rw[if_pos (hq.mpr<|.inr d.symm)]
  ·rw[Y1F d,Yg,Y0G c];show some (if p i then _ else _)=some (if q i then _ else _)
   by_cases e:p i
   ·rw[if_pos e,if_pos (hq.mpr<|.inl e)]
   ·rw[if_neg e,if_neg λf=>(hq.mp f).elim e λg=>d g.symm]
 ·rw[YQ (by rw[Y0i,Yy9,YK];omega),YQ (by rw[YK];omega)];rfl
section
variable{n:Int}{ps:List (Int×Int)}{ls Ls XW:List Int}{j:Nat}{x:Int}(g:ZL n ps)(hl:ls.length=ps.length)(hLa:Ls.Pairwise (·<·))(hLm:∀z,z∈Ls↔z∈ls)(hx:Ls[j]?=some x)
include hLa hx
theorem Zz28{y:Int}(hy:y∈Ls):y∈Ls.take j↔y<x:=by
 obtain⟨hj,e⟩:=Yy4.mp hx;constructor
 ·intro h;obtain⟨i,hi,ei⟩:=Y2h.mp h;rw[Yp]at hi;rw[List.getElem_take]at ei;rw[<-ei,<-e];exact Y0M.mp hLa i j XR hj O
 ·intro h;obtain⟨i,hi,ei⟩:=Y2h.mp hy
  have:i<j:=YS λno=>by
   rcases Nat.lt_or_eq_of_le (Y1E no) with c|c
   ·have:=Y0M.mp hLa j i hj hi c
    grind
   ·subst c;lia
  exact Y2h.mpr ⟨i,by rw[Yp];lia,by rwa[List.getElem_take]⟩
include g hl hLm
theorem ZN9(hS:∀z,z∈XW↔(0<=z/\z<(ps.length:Int))/\lnz ls z∈Ls.take j):pms n.toNat (Za ps XW)=mA n.toNat ps ls x:=by refine Zc11 (ZV g λz hz=>((hS z).mp hz).1) (inA g hl x) λa b=>ZB1 λz=>?_;rw[hS,lwS_mem,hl];refine and_congr_right λzb=>?_;refine Zz28 hLa hx ((hLm _).mpr ?_);unfold lnz;rw[Yy7,Yy0 (show z.toNat<ls.length by grind)];exact Y0Z _
theorem ZM9(hS:∀z,z∈XW↔(0<=z/\z<(ps.length:Int))/\lnz ls z∈Ls.take j):pmf (pms n.toNat (Za ps XW)) (Za ps (lvl ls x ps.length))=pms n.toNat (Za ps (XW++lvl ls x ps.length))/\pms n.toNat (Za ps (XW++lvl ls x ps.length))=mB n.toNat ps ls x/\∀z,z∈XW++lvl ls x ps.length↔(0<=z/\z<(ps.length:Int))/\lnz ls z∈Ls.take (j+1):=by
 have m1:∀z,z∈XW++lvl ls x ps.length↔(0<=z/\z<(ps.length:Int))/\lnz ls z∈Ls.take (j+1):=λz=>by
  rw[Yj,hS,lvl_mem,YD,hx];show _↔_/\lnz ls z∈Ls.take j++[x]
  rw[Yj,Yy2];constructor
  ·rintro(⟨a,b⟩|⟨a,b⟩)
   ·exact⟨a,.inl b⟩
   ·exact⟨a,.inr b⟩
  ·rintro⟨a,b|b⟩
   ·exact .inl ⟨a,b⟩
   ·exact .inr ⟨a,b⟩
 refine⟨?_,?_,m1⟩
 ·unfold pmf pms Za;rw[Yz,Y1w]
 ·refine Zc11 (ZV g λz hz=>((m1 z).mp hz).1) (inB g hl x) λa b=>ZB1 λz=>?_;rw[Yj,hS,lvl_mem,leS_mem,hl];have t:(0<=z/\z<(ps.length:Int))->(lnz ls z∈Ls.take j↔lnz ls z<x):=λzb=>Zz28 hLa hx ((hLm _).mpr (by unfold lnz;rw[Yy7,Yy0 (show z.toNat<ls.length by omega)];exact Y0Z _))
  constructor
  ·rintro(⟨a,b⟩|⟨a,b⟩)
   ·exact⟨a,Y2S<|(t a).mp b⟩
   ·exact⟨a,Int.le_of_eq b⟩
  ·rintro⟨a,b⟩;rcases Int.lt_or_eq_of_le b with c|c
   ·exact .inl ⟨a,(t a).mpr c⟩
   ·exact .inr ⟨a,c⟩
end
noncomputable def sumL(ls T:List Int):Int:=(T.map<|lnz ls).sum
theorem Zn4(h:a.Perm b):sumL ls a=sumL ls b:=by
 unfold sumL
 induction h with
 |nil=>rfl
 |cons x _ ih=>rw[QP,QP,Y0E,Y0E,ih]
 |swap x y l=>rw[QP,QP,QP,QP,Y0E,Y0E,Y0E,Y0E];lia
 |trans _ _ i1 i2=>exact i1.trans i2
theorem Zz38:∀{T:List Int},T.Nodup->o∈T->sumL ls (wo T o)+lnz ls o=sumL ls T
 |[],_,h=>by cases h
 |x::T,hn,h=>by
  obtain⟨n1,n2⟩:=Y0r.mp hn;unfold wo;by_cases c:x=o
  ·rw[Y3j (by simpa using c)];have e:T.filter (λy=>decide<|y≠o)=T:=Y1J.mpr λy hy=>YG λe=>n1 (by rwa[c,<-e])
   rw[e,<-c];show sumL ls T+lnz ls x=lnz ls x+sumL ls T
   lia
  ·rw[Y3i (by simpa using c)]
   have:=Zz38 (ls:=ls) n2 ((Ye.mp h).resolve_left λe=>c e.symm)
   show lnz ls x+sumL ls (wo T o)+lnz ls o=lnz ls x+sumL ls T;lia
theorem Zo4(hn:T.Nodup)(ho:o∈T)(hp:M.Perm (wo T o++[z])):sumL ls M=sumL ls T-lnz ls o+lnz ls z:=by
 rw[Zn4 hp]
 have:=Zz38 (ls:=ls) hn ho
 have e:sumL ls (wo T o++[z])=sumL ls (wo T o)+lnz ls z:=by unfold sumL;rw[Yz,Y1o];exact Zg7 _ _
 grind
section
variable{n:Int}{ps:List (Int×Int)}{ls T:List Int}(g:ZL n ps)
include g
theorem ZZ8(hT:Zo n ps T)(hW:Zo n ps W)(h:∀z∈T,z∈W):T.Perm W:=by
 have:=ZD2 (l:=W) hT.1.nodup (by have:=hT.2.1;have:=hW.2.1;lia) h
 exact this.symm
theorem Zv11(hT:Zo n ps T)(hg:NoG n ps ls T):∀k W,Zo n ps W->(T.filter λz=>decide (z∉W)).length=k->sumL ls T<=sumL ls W:=by
 intro k
 induction k using Nat.strongRecOn with
 |ind k ih=>
  intro W hW hk;by_cases c:∀z∈T,z∈W
  ·rw[Zn4 (ZZ8 g hT hW c)];exact Y0B _
  ·obtain⟨z,hz⟩:∃z,z∈T/\z∉W:=YS λno=>c λz hz=>YS λhn=>no ⟨z,hz,hn⟩;obtain⟨y,h1,h2⟩:=Zz66 g hT hW hz.1 hz.2;have lz:=hg z y h1
   obtain⟨M,hM1,hM2⟩:=Zz58 (wo W y++[z]);have tM:=ZL6 g hW h2 hM1 hM2
   have sM:=Zo4 (ls:=ls) hW.1.nodup h2.1 hM1;have yT:y∉T:=((ZC8 g hT).mp h1).2.1
   have less:(T.filter λx=>decide<|x∉M).length<k:=by
    rw[<-hk];refine ZE5 (l:=z::T.filter λx=>decide<|x∉M) ?_ λx hx=>?_
    ·refine Y0r.mpr ⟨λh=>?_,hT.1.nodup.filter _⟩
     have:=YO (Yy.mp h).2
     exact this (hM1.mem_iff.mpr<|Yd _<|Yy2.mpr Z)
    ·rcases Ye.mp hx with e|e
     ·rw[e];exact Yy.mpr ⟨hz.1,YG hz.2⟩
     ·obtain⟨e1,e2⟩:=Yy.mp e;have e2:=YO e2
      refine Yy.mpr ⟨e1,YG λh=>e2<|hM1.mem_iff.mpr<|Yu _<|wo_mem.mpr ⟨h,λq=>yT<|q▸e1⟩⟩
   have:=ih _ less M tM rfl
   lia
theorem Zy11(hT:Zo n ps T)(h:∀W,Zo n ps W->sumL ls T<=sumL ls W):NoG n ps ls T:=λo z he=>by
 obtain⟨M,hM1,hM2⟩:=Zz58 (wo T o++[z]);have tM:=ZL6 g hT he hM1 hM2
 have sM:=Zo4 (ls:=ls) hT.1.nodup he.1 hM1
 have:=h M tM
 lia
theorem Zo12(hl:ls.length=ps.length):Zo n (cwT n.toNat ps ls) T↔Zo n ps T/\∀W,Zo n ps W->sumL ls T<=sumL ls W:=by rw[Zm12 g hl];exact⟨λh=>⟨h.1,λW hW=>Zv11 g h.1 h.2 _ W hW Z⟩,λh=>⟨h.1,Zy11 g h.1 h.2⟩⟩
theorem Zn12(hl:ls.length=ps.length):(∃W,Zo n ps W)↔∃W,Zo n (cwT n.toNat ps ls) W:=by
 constructor
 ·rintro⟨W,hW⟩;obtain⟨L,hL1,hL2⟩:=Zz211 g;have key:∀l:List (List Int),l≠[]->∃m∈l,∀x∈l,sumL ls m<=sumL ls x:=by
   intro l
   induction l with
   |nil=>intro h;exact absurd Z h
   |cons x l ih=>
    intro _;by_cases c:l=[]
    ·rw[c];exact⟨x,B,λy hy=>by rw[Yy2.mp hy];exact Y0B _⟩
    ·obtain⟨m,hm,q⟩:=ih c;by_cases d:sumL ls m<=sumL ls x
     ·exact⟨m,Yc _ hm,λy hy=>by
       rcases Ye.mp hy with r|r
       ·rwa[r]
       ·exact q y r⟩
     ·exact⟨x,B,λy hy=>by
       rcases Ye.mp hy with r|r
       ·rw[r];exact Y0B _
       ·have:=q y r;lia⟩
  obtain⟨m,hm,q⟩:=key L (λe=>by rw[e]at hL1;exact absurd ((hL1 W).mpr hW) B);exact⟨m,(Zo12 g hl).mpr ⟨(hL1 m).mp hm,λV hV=>q V<|(hL1 V).mpr hV⟩⟩
 ·rintro⟨W,hW⟩;exact⟨W,((Zo12 g hl).mp hW).1⟩
end
end My
namespace HT
open PySem PyProof.Rows
section
noncomputable def ltP(x y:Int×List Int):Bool:=decide (x.1<y.1)||(decide (x.1=y.1)&&lexLt x.2 y.2)
end
end HT
namespace L2
open PySem PySem.Spec PyProof.Rows
section
variable{X:Cx}{a b:Expr}{ta tb:TE}{pos:Pos}
theorem Zi11(ha:PE X a ta)(hb:PE X b tb)(h1:starEach [a,b] X.env=(false,eval a X.env)::starEach [b] X.env:=by rfl)(h2:starEach [b] X.env=[(false,eval b X.env)]:=by rfl):PE X (.List [a,b] pos) (tLst<|ZL3 ta<|ZL3 tb tNil):=ZT (Zz0 ha (Zz0 hb Zz3 h2) h1)
theorem Zp1{k:Nat}(ha:PE X a ta)(hb:PE X b tb)(h1:starEach [a,b] X.env=(false,eval a X.env)::starEach [b] X.env:=by rfl)(h2:starEach [b] X.env=[(false,eval b X.env)]:=by rfl):PE X (.Tuple [a,b] k pos) (tTup<|ZL3 ta<|ZL3 tb tNil):=Zb1 (Zz0 ha (Zz0 hb Zz3 h2) h1)
end
end L2
namespace My
open PySem L2
section
variable{one d0 d1:Int}{other:Option Int}
noncomputable def hdD(one:Int)(other:Option Int)(d0 d1 y:Int):Int:=if y=one then d0 else if some y=other then d1 else y
end
end My
namespace L2
open PySem PySem.Spec PyProof.Rows
noncomputable def TL(l:List Str):List V:=l.map V.str
theorem Zd3:∀{l:List Str}{us:List Value},Vals (TL l) us->∃k:List (Str×Tok),us=strValues k/\k.map (λx=>x.fst)=l
 |[],_,.nil=>⟨[],Z,Z⟩
 |x::l,_,.cons r t=>by obtain⟨tk,rfl⟩:=r;obtain⟨k,rfl,h⟩:=Zd3 (l:=l) t;exact⟨(x,tk)::k,Z,by rw[QP,h]⟩
section
variable{X:Cx}
noncomputable def Zf14(K:PySem.W.Frag):V->List V->Hp->VK->Prop:=λx vs H Q=>∃sep a l,x=.str sep/\vs=[.ref a]/\SqL K H a (TL l)/\JoinOk sep l=true/\Q (.str<|sep.join l) H
theorem ZU2 (K:PySem.W.Frag) (h:X.K=K:=by rfl):MtM X "str.join" (Zf14 K):=by subst h;intro pins s σ H x vs v us Q I rx rv h;obtain⟨sep,a,l,rfl,rfl,hq,hj,q⟩:=h;obtain⟨tk,rfl⟩:=rx;obtain⟨u,rfl,ru⟩:=rv.one;cases ru;obtain⟨its,r,pl,hz⟩:=I.list hq;obtain⟨k,rfl,hk⟩:=Zd3 r;refine PySem.SC.join pl.isList hk hj λt' n=>⟨.str _,H,I.tok n,⟨t',Z⟩,?_⟩;rwa[show Txt.join sep l=sep.join l from PySem.StrLaws.glued_eq_join sep l]
theorem ZI:Zz12 X (.type "str") (λxs H Q=>∃i:Int,xs=[.int i]/\-(10^70)<i/\i<10^70/\Q (.str (Str.ofString (toString i))) H):=by intro pins s σ H xs us Q I r h;obtain⟨i,rfl,h1,h2,q⟩:=h;exact Zc4 pins s σ H _ us Q I r ⟨i,Z,ZE4 h1 h2,q⟩
end
theorem Zl4:∀l n,Vals (TL l) (strsFrom n l)
 |[],_=>.nil
 |_::l,n=>.cons ⟨n,Z⟩ (Zl4 l<|n+1)
section
variable{X:Cx}
noncomputable def Zz513:V->List V->Hp->VK->Prop:=λx vs H Q=>∃z y,x=.str z/\vs=[.str y]/\(y.length == 0)=false/\z.length<=sizeLine/\(Txt.split z y).length<=sizeLine/\∀p,H p=none->Q (.ref p) (upd H p<|.lst<|TL<|Txt.split z y)
theorem ZX3:MtM X "str.split" Zz513:=by
 intro pins s σ H x vs v us Q I rx rv h;obtain⟨z,y,rfl,rfl,hy,hz,hl,q⟩:=h;obtain⟨t,rfl⟩:=rx;obtain⟨u,rfl,ru⟩:=rv.one;obtain⟨u',rfl⟩:=ru;have self:Txt.split z y=[z]->EP X pins σ Q (.ref s.heap.objs.size) {s with heap:=s.heap.push {cls:=.type "list",data:=.seq #[.str z t]} }:=λe=>by rw[e]at q;refine⟨.ref s.heap.objs.size,_,I.laid (t':=s.toks) (o:=.lst<|TL [z]) (λb ob q=>Yy5 _ q) (Yy6 _) ?_,Z,q _<|I.hok.fresh<|Yy6 _⟩;exact⟨by rw[e]at hl;exact hl,[.str z t],0,.cons ⟨t,Z⟩ .nil,Yk _ Z⟩
 by_cases c1:(decide (z.length<y.length)||decide (Builtin.Str.strKind z<Builtin.Str.strKind y))=true
 ·have e:Txt.split z y=[z]:=by unfold Txt.split;rw[if_pos c1]
  exact Yy23 Y0D (Y2G _ _ _) Yy21 (Y1S _ _) (meets_str_split_cannot_occur z y t u' c1) (self e)
 ·have c1':=Yy16.mpr c1;by_cases c2:(Builtin.Str.occurrences z y 0 z.length<|z.length+1).isEmpty=true
  ·have e:Txt.split z y=[z]:=by unfold Txt.split;rw[if_neg c1,if_pos c2]
   exact Yy23 Y0D (Y2G _ _ _) Yy21 (Y1S _ _) (meets_str_split_not_found z y t u' c1' hy c2) (self e)
  ·have e:Txt.split z y=Builtin.Str.partsBetween z (Builtin.Str.occurrences z y 0 z.length<|z.length+1) y.length:=by unfold Txt.split;rw[if_neg c1,if_neg c2]
   rw[e]at hl q;refine Yy23 Y0D (Y2G _ _ _) Yy21 (Y1S _ _) (meets_str_split_sep z y t u' c1' hy (Yy16.mpr c2) hz hl) ?_;refine⟨.ref s.heap.objs.size,_,I.laid (o:=.lst<|TL<|Builtin.Str.partsBetween z (Builtin.Str.occurrences z y 0 z.length<|z.length+1) y.length) (λb ob q=>Yy5 _ q) (Yy6 _) ?_,Z,q _<|I.hok.fresh<|Yy6 _⟩;exact⟨by unfold TL;rw[Yy9];exact hl,_,0,Zl4 _ _,Yk _ Z⟩
noncomputable def Zz811:V->List V->Hp->VK->Prop:=λx vs H Q=>∃z y,x=.str z/\vs=[.str y]/\Q (.bl<|Txt.startswith z y) H
theorem Zv7:MtM X "str.startswith" Zz811:=by intro pins s σ H x vs v us Q I rx rv h;obtain⟨z,y,rfl,rfl,q⟩:=h;obtain⟨t,rfl⟩:=rx;obtain⟨u,rfl,ru⟩:=rv.one;obtain⟨u',rfl⟩:=ru;exact PySem.SC.startswith ⟨.bl _,H,I,Z,q⟩
theorem ZV7:Zz12 X (.type "int") (λxs H Q=>∃z n,xs=[.str z]/\intText? z=some n/\z.length<=640/\Q (.int n) H):=by intro pins s σ H xs us Q I r h;obtain⟨z,n,rfl,hz,hl,q⟩:=h;obtain⟨u,rfl,ru⟩:=Ze3 r;obtain⟨t,rfl⟩:=ru;exact PySem.W.KIN.call_text hz hl ⟨.int n,H,I.tok _,⟨_,Z⟩,q⟩
noncomputable def Its(z:Str):It:=⟨λi _=>i<z.cps.size,λi H x H'=>H'=H/\∃c,z.cps[i]?=some c/\x=.str ⟨#[c]⟩,λi _=>z.cps.size<=i⟩
theorem Ze7 {P:Program} {w:World} {K:PySem.W.Frag} {tg:Expr} (z:Str) (t:Tok) (it:Addr):Turn P w K tg (Its z) [it] it (λi h=>h.IsStrIter it "str_ascii_iterator" z t i) where
 mem:=B
 obj:=λi h st b hb=>by
  have e:b=it:=by simpa using hb
  subst e;obtain⟨o,e,c,d⟩:=st;exact⟨o,e,λv z=>by rw[d]at z;cases z⟩
 keep:=λi h h' st k=>by obtain⟨o,e,c,d⟩:=st;exact⟨o,k it B o e,c,d⟩
 item:=by
  intro X hP hw hK hc i pins s σ H E I hf st hg;subst hP hw hK;obtain⟨c,hc'⟩:∃c,z.cps[i]?=some c:=⟨_,YF hg⟩;obtain⟨f0,f1,f2,f3,f4,f5⟩:=hf it B;refine wpAny_pyNext_ascii_item st hc' λh' st' sb=>?_;have I1:Inv X pins σ H {s with heap:=h',toks:=s.toks+1}:=I.turned (λb o hb e=>(sb.2 b hb).trans e) f0 f1 f3 f4 f5
  obtain⟨o,e,c',d⟩:=id st';exact⟨_,Z,ZF12 (s:={s with heap:=h',toks:=s.toks+1}) e c' d J ⟨.str ⟨#[c]⟩,H,I1,⟨_,Z⟩,⟨Z,c,hc',Z⟩,st',λb hb=>(hf b hb).1⟩⟩
 done:=by intro X hP hw hK hc i pins s σ H E I hf st hg;subst hP hw hK;obtain⟨f0,f1,f2,f3,f4,f5⟩:=hf it B;exact wpAny_pyNext_ascii_end (I.ok.hd hc) st (Y1v hg) λh' eb=>⟨Z,I.turned (t':=s.toks) (λb o hb e=>eb b o hb e) f0 f1 f3 f4 f5⟩
 self:=λ_ _ _ _ _ st h=>wpAny_pyIter_striter_ascii st h
noncomputable def ZB14(tl:TE):TI:=λσ H R=>tl σ H λx H1=>∃z:Str,x=.str z/\(z.cps.all λc=>decide<|c<128)=true/\R (Its z) H1
theorem Ze11{l tg:Expr}{tl:TE}(hl:PE X l tl):PI X tg l (ZB14 tl):=by
 intro pins s σ H R I h;refine thn (hl pins s σ H _ I h) λv s1 hz0=>?_;obtain⟨x,H1,I1,r1,q1⟩:=hz0;obtain⟨z,e,ha,q⟩:=q1;subst e;obtain⟨t,rfl⟩:=r1;refine wpAny_pyIter_ascii ha ?_;refine⟨s1.heap.objs.size,[s1.heap.objs.size],_,_,H1,Z,I1.kept (t':=s1.toks) λb o e=>Yy5 _ e,Ze7 z t _,⟨_,Yk _ Z,Z,Z⟩,λb hb=>?_,q⟩;have e:b=s1.heap.objs.size:=by simpa using hb
 subst e;exact I1.fpOk (Yy6 _) (I1.hok.fresh<|Yy6 _)
noncomputable def rSlS:V->Option Int->Option Int->Hp->VK->Prop:=λx lo hi H Q=>∃z:Str,x=.str z/\(StrLaws.sliceText z lo hi).length<=sizeLine/\Q (.str<|StrLaws.sliceText z lo hi) H
theorem Zc8(h:IsPart v o):∃l:Option (Int×Tok),v=partValue l/\l.map (λx=>x.fst)=o:=by
 cases h with
 |none=>exact⟨none,Z,Z⟩
 |int i t=>exact⟨some (i,t),Z,Z⟩
theorem ZW10:SlR X rSlS:=by
 intro pins s σ H x v vl vu lo hi sl Q I rx hs pl pu h;obtain⟨z,rfl,hz,q⟩:=h;obtain⟨t,rfl⟩:=rx;refine⟨"str",_,slot_str_getitem.lookup,Y2G s z t,?_⟩;obtain⟨l,rfl,e1⟩:=Zc8 pl;obtain⟨u,rfl,e2⟩:=Zc8 pu;subst e1 e2;refine wpAny_getItem_str_slice (l:=l) (u:=u) (st:=none) hs XS ?_;unfold StrLaws.sliceText at hz q;unfold sliceMade slicePicked;show Made.post (if (1 == 1&&(Builtin.Str.strSliceIndices (l.map λx=>x.fst) (u.map λx=>x.fst) 1 z.length).length == z.length)=true then _ else _) _ s
 split at hz
 ·rename_i c;rw[if_pos c]at q;rw[if_pos c];exact⟨.str z,H,I,⟨t,Z⟩,q⟩
 ·rename_i c;rw[if_neg c]at q;rw[if_neg c];exact⟨hz,.str _,H,I.tok _,⟨_,Z⟩,q⟩
end
end L2
namespace My
open PySem L2
section
variable{g:TG}{tt:TT}{te:TE}{o:Nat}{fr:List Nat}{σ:L2.St}{H:Hp}{Q:VK}
theorem ZJ11(Pv:Nat->List V->Hp->Prop)(h0:Pv 0 [] H)(hz:z.cps.size<sizeLine)(hl:∀i ys H,i<=z.cps.size->Pv i ys H->ys.length<=i)
  (hs:∀i c ys H,z.cps[i]?=some c->Pv i ys H->Zi4 Pv g tt te o fr σ i (.str ⟨#[c]⟩) ys H)(hd:∀ys H,Pv z.cps.size ys H->∀p,H p=none->Q (.ref p) (upd H p<|.lst ys)):LcR (Its z) g tt te o fr σ H Q:=by
 refine⟨λi m ys H=>m=z.cps.size-i/\i<=z.cps.size/\Pv i ys H,⟨z.cps.size,B,Yr _,h0⟩,?_⟩;rintro i m ys H ⟨rfl,hi,p⟩;have hy:=hl i ys H hi p
 by_cases hlt:i<z.cps.size
 ·refine .inr ⟨hlt,O,λx H' zz=>?_⟩;obtain⟨e,c,hc,y⟩:=zz;subst e;subst y;exact hs i c ys _ hc p (λj ys H=>∃m',m'<z.cps.size-i/\m'=z.cps.size-j/\j<=z.cps.size/\Pv j ys H) λys H p'=>⟨z.cps.size-(i+1),XR,Z,hlt,p'⟩
 ·have e:i=z.cps.size:=O;subst e;exact .inl ⟨Yy6 _,O,hd ys H p⟩
end
noncomputable def nT(i:Int):Str:=Str.ofString (toString i)
noncomputable def dg(m:Nat):List Nat:=(Nat.toDigits 10 m).map Char.toNat
noncomputable def sgT(i:Int):List Nat:=if i<0 then 45::dg i.natAbs else dg i.natAbs
theorem Zl2(i:Int):(nT i).cps.toList=sgT i:=by
 unfold nT sgT;cases i with
 |ofNat m=>
  rw[if_neg (show ¬Int.ofNat m<0 from Y3p.mpr<|Int.natCast_nonneg m)];exact W.KIN.signs_num m
 |negSucc m=>
  rw[if_pos (Int.negSucc_lt_zero m)];have e:(Str.ofString<|toString ((m+1:Nat):Int)).cps.toList=dg (m+1):=W.KIN.signs_num (m+1)
  rw[Str.ofString_eq_toList]at e ⊢;have e2:(toString<|Int.negSucc m).toList='-'::(toString ((m+1:Nat):Int)).toList:=by show("-"++toString (m+1)).toList='-'::(toString<|m+1).toList;rw[String.toList_append];rfl
  rw[e2,QP];show 45::List.map Char.toNat _=45::dg (m+1)
  rw[<-e]
theorem dgc{d:Nat}(h:d<10):(Nat.digitChar d).toNat=48+d:=(by decide:∀d<10,(Nat.digitChar d).toNat=48+d) d h
theorem Zc12(h:m<10):dg m=[48+m]:=by unfold dg;rw[Nat.toDigits_of_lt_base h,Y1o,dgc h]
theorem Zf12(h:10<=m):dg m=dg (m/10)++[48+m%10]:=by unfold dg;rw[Nat.toDigits_of_base_le J h,Yz,Y1o,dgc (Nat.mod_lt _ J)]
theorem Zk5(m:Nat):NumText.AllDigits (dg m):=by
 induction m using Nat.strongRecOn with
 |ind m ih=>
  intro c hc;by_cases h:m<10
  ·rw[Zc12 h]at hc
   have:=Yy2.mp hc
   lia
  ·rw[Zf12 O]at hc;rcases Yj.mp hc with q|q
   ·exact ih (m/10) O c q
   ·have:=Yy2.mp q
    grind
theorem ZJ12(m:Nat):dg m≠[]:=by
 by_cases h:m<10
 ·rw[Zc12 h];simp
 ·rw[Zf12 XT];simp
theorem Za12(m:Nat):NumText.digitsVal (dg m)=m:=by
 induction m using Nat.strongRecOn with
 |ind m ih=>
  by_cases h:m<10
  ·rw[Zc12 h];show 0*10+(48+m-48)=m
   lia
  ·rw[Zf12 XT,Y2o,ih (m/10) XT];lia
theorem Zd12{m k:Nat}(hk:1<=k)(h:m<10^k):(dg m).length<=k:=by unfold dg;rw[Yy9];exact toDigits_len_pow J hk h
theorem Ze12(h:0<m):∃c r,dg m=c::r/\c≠48:=by
 induction m using Nat.strongRecOn with
 |ind m ih=>
  by_cases c:m<10
  ·exact⟨48+m,[],Zc12 c,O⟩
  ·obtain⟨a,r,e,ne⟩:=ih (m/10) XT O;exact⟨a,r++[48+m%10],by rw[Zf12 XT,e];rfl,ne⟩
theorem Zz81(x:Str):x.length=x.cps.toList.length:=by show x.cps.size=_;rw[YI]
theorem Zp4{x y:Str}(h:x.cps.toList=y.cps.toList):x=y:=Str.ext' (Array.toList_inj.mp h)
theorem Zz013{k:Nat}(hk:1<=k)(h1:-(10^k)<i)(h2:i<10^k):(sgT i).length<=k+1:=by
 have e:((10^k:Nat):Int)=(10:Int)^k:=by rw[Int.natCast_pow];rfl
 rw[<-e]at h1 h2
 have:=Zd12 hk (m:=i.natAbs) XR
 unfold sgT;split
 ·rw[Yq];lia
 ·lia
theorem Zs3{k:Nat}(hk:1<=k)(h1:-(10^k)<i)(h2:i<10^k):(nT i).length<=k+1:=by rw[Zz81,Zl2];exact Zz013 hk h1 h2
theorem ZW3{k:Nat}(hk:1<=k)(h4:k<=4000)(h1:-(10^k)<i)(h2:i<10^k):intText? (nT i)=some i:=by
 have hl:=Zs3 hk h1 h2;have e:=Zl2 i
 unfold sgT at e;split at e
 ·rw[intText_neg e (Zk5 _) (ZJ12 _) O,Za12];congr 1;grind
 ·rw[intText_digits (by rw[e];exact Zk5 _) (by rw[e];exact ZJ12 _) XT,e,Za12];congr 1;lia
theorem ZJ9{k:Nat}(hk:1<=k)(h4:k<=4000)(h1:-(10^k)<i)(h2:i<10^k)(h3:-(10^k)<j)(h5:j<10^k)(e:nT i=nT j):i=j:=by have a:=ZW3 hk h4 h1 h2;rw[e,ZW3 hk h4 h3 h5]at a;exact(Yl a).symm
noncomputable def figs(cs:List Nat):List Nat:=if cs.head?=some 45 then cs.tail else cs
noncomputable def ZZ2(cs:List Nat):Bool:=decide (1<=(figs cs).length/\(figs cs).length<=60/\(∀c∈figs cs,48<=c/\c<=57)/\(cs=[48]\/(figs cs).head?≠some 48))
theorem Zb12(m:Nat):(dg m).head?≠some 45:=λh=>by
 cases e:dg m with
 |nil=>exact ZJ12 m e
 |cons c r=>
  rw[e]at h;have hc:c=45:=Yl h
  have:=Zk5 m c (by rw[e];exact Yb)
  lia
theorem Zz312(i:Int):figs (sgT i)=dg i.natAbs:=by
 unfold figs sgT;split
 ·rfl
 ·rw[if_neg (Zb12 _)]
theorem ZZ12(h1:-(10^60)<i)(h2:i<10^60):ZZ2 (sgT i)=true:=by
 refine YG ?_;rw[Zz312];refine⟨List.length_pos_iff.mpr<|ZJ12 _,Zd12 (k:=60) J XT,Zk5 _,?_⟩;by_cases c:i=0
 ·subst c;exact .inl rfl
 ·obtain⟨a,r,e,ne⟩:=Ze12 (m:=i.natAbs) O;refine .inr ?_;rw[e];intro q;exact ne (Yl q)
noncomputable def jn(c:Nat):List (List Nat)->List Nat
 |[]=>[]
 |[a]=>a
 |a::b::l=>a++c::jn c (b::l)
theorem Zo2(c:Nat):∀l:List Str,(Str.join ⟨#[c]⟩ l).cps.toList=jn c (l.map λx=>x.cps.toList)
 |[]=>rfl
 |[a]=>rfl
 |a::b::l=>by
  have ih:=Zo2 c (b::l);show((a++⟨#[c]⟩++Str.join ⟨#[c]⟩ (b::l)):Str).cps.toList=a.cps.toList++c::jn c ((b::l).map λx=>x.cps.toList)
  rw[<-ih,Y2H,Y2H,Y1K,Y1K,Y0A];rfl
theorem Zx3{c:Nat}:∀{a b x y:List Nat},c∉a->c∉b->a++c::x=b++c::y->a=b/\x=y
 |[],[],_,_,_,_,e=>⟨Z,(YB e).2⟩
 |[],b::bs,_,_,_,hb,e=>absurd (Yb) ((YB e).1▸hb)
 |a::as,[],_,_,ha,_,e=>absurd (Yb) ((YB e).1▸ha)
 |a::as,b::bs,x,y,ha,hb,e=>by obtain⟨e1,e2⟩:=YB e;obtain⟨h1,h2⟩:=Zx3 (a:=as) (b:=bs) (λh=>ha<|Yc _ h) (λh=>hb<|Yc _ h) e2;exact⟨by rw[e1,h1],h2⟩
theorem ZQ11:∀{A XU:List (List Nat)},A≠[]->XU≠[]->(∀a∈A,c∉a)->(∀b∈XU,c∉b)->jn c A=jn c XU->A=XU
 |[],_,h,_,_,_,_=>absurd Z h
 |_,[],_,h,_,_,_=>absurd Z h
 |[a],[b],_,_,_,_,e=>by have e:a=b:=e;rw[e]
 |[a],b::b'::XU,_,_,ha,_,e=>by have e:a=b++c::jn c (b'::XU):=e;exact absurd (by rw[e];simp) (ha a Yb)
 |a::a'::A,[b],_,_,_,hb,e=>by have e:a++c::jn c (a'::A)=b:=e;exact absurd (by rw[<-e];simp) (hb b Yb)
 |a::a'::A,b::b'::XU,_,_,ha,hb,e=>by obtain⟨e1,e2⟩:=Zx3 (ha a Yb) (hb b Yb) (show a++c::jn c (a'::A)=b++c::jn c (b'::XU) from e);rw[e1,ZQ11 (A:=a'::A) (XU:=b'::XU) B B (λx hx=>ha x<|Yc _ hx) (λx hx=>hb x<|Yc _ hx) e2]
theorem ZH5(x y:Str):Txt.split x y≠[]:=by
 unfold Txt.split;split
 ·simp
 ·split
  ·simp
  ·rw[StrLaws.partsBetween_eq];obtain⟨p,r,e⟩:=StrLaws.partsFrom_ne x y.length 0 (Builtin.Str.occurrences x y 0 x.length<|x.length+1);rw[e];simp
theorem Zi3{c:Nat}{l:List Str}(hl:l≠[])(hf:∀p∈l,c∉p.cps.toList):Txt.split (Str.join ⟨#[c]⟩ l) ⟨#[c]⟩=l:=by
 have e:=StrLaws.join_split (Str.join ⟨#[c]⟩ l) ⟨#[c]⟩;have e2:=YX (λx:Str=>x.cps.toList) e
 rw[Zo2,Zo2]at e2;have m:=ZQ11 (by simpa using ZH5 _ _) (by simpa using hl) (λa ha=>by
  obtain⟨p,hp,rfl⟩:=Yt.mp ha;exact StrLaws.split_free _ c p hp) (λa ha=>by obtain⟨p,hp,rfl⟩:=Yt.mp ha;exact hf p hp) e2
 exact(List.map_inj_right λx y h=>Zp4 h).mp m
theorem const_mkS{mg:Str->Option Value}{z:Str}{v:Value}(X:K.In h)(G:h.Ns mainGlobals mg)(a:PySem.W.nsIn K mainGlobals x=some (some v))(e:∃tk,v=.str z tk):∃tk,mg x=some (.str z tk):=by obtain⟨tk,rfl⟩:=e;exact⟨tk,Y0j X G a⟩
noncomputable def Zs:Str:=Str.ofString " "
noncomputable def nlS:Str:=Str.ofString "\n"
noncomputable def Zz04 (p:Int×Int) (l:Int):Str:=Str.join Zs [Str.ofString "tie",nT p.1,nT p.2,nT l]
noncomputable def webT (n:Int) (ps:List (Int×Int)) (ls:List Int):List Str:=(Str.ofString "places "++nT n)::List.zipWith Zz04 ps ls
noncomputable def Zr5(n:Int)(ps:List (Int×Int))(ls:List Int):Str:=Str.join nlS (webT n ps ls)
theorem Ze1:Zs=⟨#[32]⟩:=by rfl
theorem ZD12:nlS=⟨#[10]⟩:=by rfl
theorem ZF11 (a b c:Str):Str.ofString "tie "++Str.join Zs [a,b,c]=Str.join Zs [Str.ofString "tie",a,b,c]:=by have e:Str.ofString "tie "=Str.ofString "tie"++Zs:=XS;rw[e];rfl
theorem Zx4 (n:Int):Str.ofString "places "++nT n=Str.join Zs [Str.ofString "places",nT n]:=by have e:Str.ofString "places "=Str.ofString "places"++Zs:=XS;rw[e];rfl
theorem Zs4{c:Nat}(h:c∈sgT i):c=45\/48<=c/\c<=57:=by
 unfold sgT at h;split at h
 ·rcases Ye.mp h with e|e
  ·exact .inl e
  ·exact .inr (Zk5 _ c e)
 ·exact .inr (Zk5 _ c h)
theorem Zh8{c:Nat}(h1:c≠45)(h2:c<48\/57<c):c∉(nT i).cps.toList:=λh=>by rw[Zl2]at h;rcases Zs4 h with e|e<;>lia
theorem Zf6(i:Int):((nT i).cps.all λc=>decide (c<128))=true:=by rw[<-Y2T,Zl2,Yy03];intro c hc;refine YG ?_;rcases Zs4 hc with e|e<;>lia
theorem ZX9{c x:Nat}:∀{A:List (List Nat)},x∈jn c A->x=c\/∃a∈A,x∈a
 |[],h=>by cases h
 |[a],h=>.inr ⟨a,Yb,h⟩
 |a::b::A,h=>by
  have h:x∈a++c::jn c (b::A):=h;rcases Yj.mp h with h|h
  ·exact .inr ⟨a,Yb,h⟩
  ·rcases Ye.mp h with h|h
   ·exact .inl h
   ·rcases ZX9 h with e|⟨y,hy,hx⟩
    ·exact .inl e
    ·exact .inr ⟨y,Yc _ hy,hx⟩
theorem ZP11{c XU:Nat}:∀{A:List (List Nat)},(∀a∈A,a.length<=XU)->(jn c A).length<=A.length*(XU+1)
 |[],_=>Yr _
 |[a],h=>by
  have:=h a Yb
  show a.length<=1*(XU+1);lia
 |a::b::A,h=>by
  have h1:=h a Yb;have ih:=ZP11 (c:=c) (A:=b::A) λx hx=>h x (Yc _ hx)
  show(a++c::jn c (b::A)).length<=_;rw[Yy3,Yq,Yq,Nat.add_mul];lia
theorem ZY2{c XU:Nat}{l:List Str}(h:∀a∈l,a.length<=XU):(Str.join ⟨#[c]⟩ l).length<=l.length*(XU+1):=by rw[Zz81,Zo2];refine Yv (ZP11 (XU:=XU) λa ha=>?_) (by rw[Yy9];exact Yy6 _);obtain⟨p,hp,rfl⟩:=Yt.mp ha;rw[<-Zz81];exact h p hp
theorem ZH4{c XU:Nat}{l:List Str}(h:∀a∈l,a.length<=XU)(hl:l.length*XU+l.length<=16777216):JoinOk ⟨#[c]⟩ l=true:=by unfold JoinOk;rw[StrLaws.joinFits h (by show l.length*XU+l.length*1<=_;lia)];rfl
noncomputable def Told(l:List Int):Prop:=∀z∈l,-(10^60)<z/\z<(10:Int)^60
theorem Zc2(h:Told l):∀a∈l.map nT,a.length<=61:=λa ha=>by obtain⟨z,hz,rfl⟩:=Yt.mp ha;exact Zs3 (k:=60) J (h z hz).1 (h z hz).2
theorem Zu5{name:Str}{l:List Int}(hn:32∉name.cps.toList):Txt.split (Str.join Zs (name::l.map nT)) Zs=name::l.map nT:=by
 rw[Ze1];refine Zi3 B λp hp=>?_;rcases Ye.mp hp with e|e
 ·rwa[e]
 ·obtain⟨z,_,rfl⟩:=Yt.mp e;exact Zh8 J (.inl J)
theorem Zg8{name:Str}{l:List Int}(hn:10∉name.cps.toList):10∉(Str.join Zs (name::l.map nT)).cps.toList:=λh=>by
 rw[Ze1,Zo2]at h;rcases ZX9 h with e|⟨a,ha,hx⟩
 ·cases e
 ·obtain⟨p,hp,rfl⟩:=Yt.mp ha;rcases Ye.mp hp with e|e
  ·rw[e]at hx;exact hn hx
  ·obtain⟨z,_,rfl⟩:=Yt.mp e;exact Zh8 J (.inl J) hx
theorem ZS9:Txt.split (Zr5 n ps ls) nlS=webT n ps ls:=by
 unfold Zr5;rw[ZD12];refine Zi3 (by unfold webT;simp) λp hp=>?_;rcases Ye.mp hp with e|e
 ·rw[e,Zx4];exact Zg8 (l:=[n]) J
 ·obtain⟨i,hi,e⟩:=Y1e e;rw[List.getElem_zipWith]at e;rw[<-e];exact Zg8 (l:=[_,_,_]) J
theorem Zi7 (w:Str):Txt.startswith w (Str.ofString "-")=decide (w.cps.toList.head?=some 45):=by
 have h:=StrLaws.subAt_one w 45 0;have e:Str.ofString "-"=⟨#[45]⟩:=XS
 rw[e];unfold Txt.startswith;rw[List.head?_eq_getElem?];by_cases c:w.cps.toList[0]?=some 45
 ·obtain⟨h1,h2⟩:=h.mpr c;rw[YG c,h2,Bool.and_true];exact YG h1
 ·rw[YR c];refine Yy16.mpr λq=>c (h.mp ?_);obtain⟨q1,q2⟩:=Bool.and_eq_true_iff.mp q;exact⟨YO q1,q2⟩
theorem ZL5(h:1<=w.cps.toList.length):(StrLaws.sliceText w (some 1) none).cps.toList=w.cps.toList.tail:=by
 rw[StrLaws.sliceText_from (i:=1) ⟨J,O⟩];show(List.take _<|List.drop 1 _)=_
 rw[List.drop_one];refine YL ?_;rw[Yy27];omega
theorem ZP7 (c:Nat):(!(!(Builtin.Str.occurrences (Str.ofString "0123456789") ⟨#[c]⟩ 0 (Str.ofString "0123456789").length 1).isEmpty))=!decide (48<=c/\c<=57):=by
 rw[StrLaws.found_one];congr 1;have e:(Str.ofString "0123456789").cps.toList=[48,49,50,51,52,53,54,55,56,57]:=XS
 rw[e];refine Y1c.mpr ⟨λh=>?_,λh=>?_⟩
 ·simp at h;omega
 ·simp;lia
theorem Zz19{i:Nat}{v:V}(h:(TL l)[i]?=some v):∃x,v=.str x/\l[i]?=some x:=by unfold TL at h;rw[Yg]at h;obtain⟨x,hx,rfl⟩:=Y1s.mp h;exact⟨x,Z,hx⟩
theorem Zx(l:List Str):(TL l).length=l.length:=by unfold TL;rw[Yy9]
theorem ZC5(l:List Str)(x:Str):TL l++[.str x]=TL (l++[x]):=by unfold TL;rw[Yz];rfl
theorem Zk4{ps:List (Int×Int)}{ls:List Int}{p:Int×Int}{l:Int}(hp:ps[i]?=some p)(hl:ls[i]?=some l):webT n (ps.take (i+1)) (ls.take (i+1))=webT n (ps.take i) (ls.take i)++[Zz04 p l]:=by
 have h1:=(Yy4.mp hp).1;have h2:=(Yy4.mp hl).1
 unfold webT;rw[YD,YD,hp,hl];rw[List.zipWith_append (by rw[Yp,Yp];grind)];rfl
theorem Zc3(hl:ls.length=ps.length):(webT n ps ls).length=ps.length+1:=by unfold webT;rw[Yq,Y0e];grind
theorem Zq6(h:Told [p.1,p.2,l]):(Zz04 p l).length<=400:=by
 unfold Zz04;rw[Ze1];refine Yv (ZY2 (XU:=61) (l:=Str.ofString "tie" :: [p.1,p.2,l].map nT) λa ha=>?_) (show 4*(61+1)<=400 by decide);rcases Ye.mp ha with e|e
 ·rw[e];decide
 ·exact Zc2 h a e
theorem ZJ2(g:ZL n ps)(hT:Told ls){i:Nat}{p:Int×Int}{l:Int}(hp:ps[i]?=some p)(hl:ls[i]?=some l):Told [p.1,p.2,l]:=λz hz=>by
 have:=g.2.2.2 p (Yy8 hp)
 have:=g.2.1
 rcases Ye.mp hz with e|e
 ·omega
 ·rcases Ye.mp e with e|e
  ·grind
  ·rw[Yy2.mp e];exact hT l (Yy8 hl)
theorem ZI3(g:ZL n ps)(hT:Told ls):∀a∈webT n ps ls,a.length<=400:=λa ha=>by
 rcases Ye.mp ha with e|e
 ·rw[e,Zz81,Y2H,Y1K,Yy3,<-Zz81,<-Zz81]
  have:=Zs3 (i:=n) (k:=60) J (by have:=g.1;omega) (by have:=g.2.1;omega)
  have e2:(Str.ofString "places ").length=7:=J;lia
 ·obtain⟨i,hi,e⟩:=Y1e e;rw[List.getElem_zipWith]at e;rw[<-e];rw[Y0e]at hi;exact Zq6 (ZJ2 g hT (i:=i) (Yy0 XR)<|Yy0 XR)
noncomputable def MXF(K:PySem.W.Frag)(mg:Str->Option Value)(x m qual:Str)(st:Stmt):Prop:=∃C f fd,mg x=some (.ref C)/\Fun K m qual st f fd/\Meth K C m f
theorem mx_mk{K:PySem.W.Frag}{h:Heap}{mg:Str->Option Value}{x m qual:Str}{st:Stmt}{C f:Addr}{oc:Value}{od an:Option Addr}{osl:Array (Option Value)}{kV doc pm cdv ct:Value}(X:K.In h)(G:h.Ns mainGlobals mg)
  (aC:PySem.W.nsIn K mainGlobals x=some (some<|.ref C))(a:PySem.W.findIn K (.ref C) m=some (some<|.ref f))(i:PySem.W.isFn K (.ref f)=true)
  (l:K.lookup f=some ⟨oc,od,.func<|PySem.W.fnOf m qual (ZZ1 st) (Zs1 st) (Zz9 st) .none kV doc pm an cdv ct,osl⟩)(c:PySem.W.codeIn K cdv qual=true)(k:PySem.W.keepIn K (.ref f)=true):MXF K mg x m qual st:=
 ⟨C,f,_,Y0j X G aC,ZL7 l c k,⟨a,i,k⟩⟩
noncomputable abbrev Tr:=Int×List (Int×Int)×List Int
noncomputable def OkT(T:Tr):Prop:=ZL T.1 T.2.1/\T.2.2.length=T.2.1.length/\Told T.2.2
noncomputable def StageV(C:Addr)(H:Hp)(v:V)(T:Tr):Prop:=∃t w a,v=.ref t/\H t=some (.tup [.ref w,.ref a])/\WebAt C H w T.1 T.2.1/\H a=some (.lst<|IL T.2.2)
theorem StageV.same{C:Addr}{H H':Hp}{v:V}{T:Tr}(s:Same H H')(h:StageV C H v T):StageV C H' v T:=by obtain⟨t,w,a,e,h1,h2,h3⟩:=h;exact⟨t,w,a,e,s _ _ h1,h2.same s,s _ _ h3⟩
noncomputable def DeskAt (C:Addr) (H:Hp) (x d:Addr) (zs:List V):Prop:=∃dx,H x=some (.ins C dx<|putF "stages" (.ref d) [])/\H d=some (.lst zs)
theorem DeskAt.same{C:Addr}{H H':Hp}{x d:Addr}{zs:List V}(s:Same H H')(h:DeskAt C H x d zs):DeskAt C H' x d zs:=by obtain⟨dx,h1,h2⟩:=h;exact⟨dx,s _ _ h1,s _ _ h2⟩
theorem Zz72 (d:Addr):(putF "stages" (V.ref d) []).lookup ("stages":Str)=some (.ref d):=by rw[Zz01,if_pos Z]
end My
namespace L2
open PySem PySem.Spec PyProof.Rows
noncomputable def ZQ8(base:Heap)(l:List Env)(e:Addr)(cls a0 fl:Value)(h:Heap):Prop:=base.StaysIn h/\base.get? e=none/\h.FunFrames base l/\h.TracedAtW base e cls a0 fl
noncomputable def Mark(v:Value):Prop:=v=.none\/∃f:Addr,v=rawInt f
section
variable{M:Model}{A:Around}{E:Value->Shared->Prop}{s:Shared}{base:Heap}{env env':Env}{outer l:List Env}{L e f:Addr}{cls a0 fl:Value}
theorem Zu11(h:env'.frame=env.frame)(v:Value):noteFrame v env'=noteFrame v env:=by unfold noteFrame PySem.frameOf;rw[h]
theorem Zh6{Q:Unit->Shared->Prop}(F:ZQ8 base l e cls a0 fl s.heap)(k:∀g,ZQ8 base l e cls a0 (fr.elim .none λf=>rawInt f) g->s.heap.UpToSlots g->Q () {s with heap:=g}):wpAny M A (setFlight (.ref e) fr) Q E s:=by
 obtain⟨b1,b2,b3,oe,vs,T,oT,ts,x1,x2,x3,x4,x5,x6,x7,x8,x9⟩:=F;have z:3<ts.size:=(Yy13.mp x9).1
 unfold setFlight;refine Yy1 (Y0o x1 x3 x4 ?_);rw[if_pos B];refine Y0K x7 x8 z ?_;have oth:∀b,b≠T->(s.heap.update T (Obj.mapFields (·.setIfInBounds 3 (fr.elim Value.none λf=>rawInt f)))).get? b=s.heap.get? b:=λb n=>Y0O _ _ (YU n)
 have nT:∀b o,s.heap.get? b=some o->(∀ws,o.data≠.fields ws)->b≠T:=λb o q d r=>by rw[r,x7]at q;cases q;exact d ts x8
 refine k _ ⟨λb o q=>?_,b2,b3.of_keeps λb o q d=>⟨o,(oth b<|nT b o q d).trans q,Z⟩,?_⟩ λb o q d=>⟨o.slots,(oth b<|nT b o q d).trans q⟩
 ·refine(oth b λr=>?_).trans (b1 b o q);rw[r,x5]at q;cases q
 ·refine⟨oe,vs,T,_,_,(oth e<|YU x6).trans x1,x2,x3,x4,x5,x6,Yy02 _ x7<|Y0U<|YV x8 _,YV x8 _,?_⟩;simp[z]
theorem Yz9{α:Type}{Q:α->Shared->Prop}(F:ZQ8 base l e cls a0 fl s.heap)(k:∀m g,Mark m->ZQ8 base l e cls a0 m g->s.heap.UpToSlots g->E (.ref e) {s with heap:=g}):wpAny M A (passOn what (.ref e) cenv:Sem α) Q E s:=by
 obtain⟨_,_,_,oe,vs,T,oT,ts,x1,x2,x3,x4,_⟩:=id F;have km:Mark (cenv.frame.elim .none λf=>rawInt f):=by
  cases cenv.frame with
  |none=>exact .inl rfl
  |some f=>exact .inr ⟨f,Z⟩
 unfold PySem.passOn;refine Yy1 (Y0o x1 x3 x4 ?_);rw[if_neg B]
 first
  |exact Yy1 (Yh<|Yy1<|Zh6 F λg q u=>Y2V<|k _ g km q u)
  |exact Yy1 (Zh6 F λg q u=>Y2V<|k _ g km q u)
theorem Yz7{Q:Unit->Shared->Prop}(hfr:A.frames=some (env::outer))(hf:env.frame=some L)(hm:Mark fl)(F:ZQ8 base (env::outer) e cls a0 fl s.heap)(k:∀g,Heap.FlyingW base outer e cls a0 g->s.heap.UpToSlots g->Q () {s with heap:=g}):wpAny M A (leaving env<|.ref e) Q E s:=by
 rcases hm with rfl|⟨f,rfl⟩
 ·exact wpAny_leaves_onW hfr hf F k
 by_cases hc:f=L
 ·subst hc;unfold leaving;refine Yy1 (wpAny_noteFrame_againW hf F.2.2.2<|wpAny_landsW F λg q u=>?_);obtain⟨k1,k2,⟨_,_,k3⟩,k4⟩:=q;exact k g ⟨k1,k2,k3,k4⟩ u
 obtain⟨b1,b2,b3,oe,vs,T,oT,ts,x1,⟨rfl,x0⟩,x3,x4,x5,x6,x7,x8,x9⟩:=F;have z:3<ts.size:=(Yy13.mp x9).1
 have oth:∀b,b≠T->(s.heap.update T (Obj.mapFields (·.setIfInBounds 3 Value.none))).get? b=s.heap.get? b:=λb n=>Y0O _ _ (YU n);have nT:∀b o,s.heap.get? b=some o->(∀ws,o.data≠.fields ws)->b≠T:=λb o q d r=>by rw[r,x7]at q;cases q;exact d ts x8
 unfold leaving noteFrame;simp only[hf];refine Yy1 (Yy1<|Y0o x1 x3 x4 ?_);rw[if_pos B];refine Yy1 (Y0o x7 x8 x9 ?_);rw[if_neg (by simp[rawInt];exact λr=>hc<|Int.ofNat_inj.mp r)];refine Yy1 (Y0K x7 x8 z ?_);refine wpAny_newEntryW hfr (b3.of_keeps λb o q d=>⟨o,(oth b<|nT b o q d).trans q,Z⟩) hf ((oth e<|YU x6).trans x1) (λb o q=>?_) b2 x3 (Yy13.mp x4).1 x0 λg zz=>by obtain⟨y1,⟨_,_,y2⟩,y3,y4⟩:=zz;exact k g ⟨y1,b2,y2,y3⟩ λb o q d=>y4 b o ((oth b<|nT b o q d).trans q) d
 refine(oth b λr=>?_).trans (b1 b o q);rw[r,x5]at q;cases q
end
section
variable{X:Cx}{pins:List (Addr×Obj)}{σ:St}{H:Hp}{s:Shared}{e C:Addr}{fl:Value}{h0:Heap}
structure FlyM (h0:Heap) (H:Hp) (e C:Addr) (fl:Value) (h:Heap):Prop where
 ex:∃oe vs T oT ts a0,h.get? e=some oe/\oe.cls=.ref C/\oe.data=.fields vs/\vs[0]?=some a0/\vs[1]?=some (.ref T)/\T≠e/\h.get? T=some oT/\oT.data=.fields ts/\ts[3]?=some fl/\h0.get? T=none/\H T=none
 new:h0.get? e=none
 free:H e=none
theorem Fly.m(F:Fly h0 H e C h):FlyM h0 H e C .none h:=⟨F.ex,F.new,F.free⟩
theorem FlyM.base(I:Inv X pins σ H s)(F:FlyM h0 H e C fl s.heap):∃T a0,ZQ8 (grd X s.heap [e,T]) X.stack e (.ref C) a0 fl s.heap/\h0.get? T=none/\H T=none:=by obtain⟨oe,vs,T,oT,ts,a0,y1,y2,y3,y4,y5,y6,y7,y8,y9,nT,fT⟩:=F.ex;refine⟨T,a0,⟨Zz710,Yy18 _ B,?_,oe,vs,T,oT,ts,y1,⟨y2,y4⟩,y3,y5,Yy18 _ B,y6,y7,y8,y9⟩,nT,fT⟩;exact Yy24 I.stack λenv henv a hf=>Yu _ (Y1n.mpr ⟨env,henv,hf⟩)
theorem FlyM.back(I:Inv X pins σ H s)(nT:h0.get? T=none)(fT:H T=none)(hold:∀b,s.heap.get? b=none->h0.get? b=none)(ne:h0.get? e=none)(fe:H e=none)
  (F:ZQ8 (grd X s.heap [e,T]) X.stack e (.ref C) a0 fl g):FlyM h0 H e C fl g:=by
 obtain⟨b1,b2,b3,oe,vs,T',oT,ts,x1,⟨x2,x0⟩,x3,x4,x5,x6,x7,x8,x9⟩:=F;have nf:T'∉frs X.stack:=λz=>by obtain⟨_,o,ho,hd⟩:=b3.mem z;rw[x7]at ho;cases ho;exact hd ts x8
 have key:∀u,s.heap.get? T'=some u->T'≠T->False:=λu q n=>by rw[ZX1 q nf (by simp[x6,n])]at x5;cases x5
 refine⟨⟨oe,vs,T',oT,ts,a0,x1,x2,x3,x0,x4,x6,x7,x8,x9,?_,?_⟩,ne,fe⟩
 ·by_cases hc:T'=T
  ·rw[hc];exact nT
  ·cases q:s.heap.get? T' with
   |none=>exact hold _ q
   |some u=>exact(key u q hc).elim
 ·by_cases hc:T'=T
  ·rwa[hc]
  ·cases q:H T' with
   |none=>rfl
   |some ho=>
    obtain⟨u,g⟩:=(I.hok T' ho q).there;exact(key u g hc).elim
theorem Zt6(hst:X.stack=X.env::X.outer)(hfr:X.env.frame=some X.env.locals)(hex:X.ex=[])(I:Inv X pins σ H s)(hm:Mark fl)(F:FlyM X.s₀.heap H e C fl s.heap)(hE:E (.ref C) none H){E':Value->Shared->Prop}:
  wpAny (model X.prog X.w) X.A (leaving X.env<|.ref e) (λ_ s''=>CXW X.prog X.w X.outer X.H₀ X.s₀ E (.ref e) s'') E' s:=by
 obtain⟨T,a0,q,nT,fT⟩:=FlyM.base I F;rw[hst]at q;refine Yz7 (by rw[I.ok.frames,hst]) hfr hm q λg fl' up=>?_;refine ZV6 hst hfr hex I (λb hb=>?_) fl' up F.new F.free hE Z Z rfl;rcases Ye.mp hb with rfl|hb
 ·exact⟨F.new,F.free⟩
 ·rw[Yy2.mp hb];exact⟨nT,fT⟩
noncomputable def Zz45(X:Cx)(E:XK):Prop:=∀pins σ H s e C fl,Inv X pins σ H s->Mark fl->FlyM X.s₀.heap H e C fl s.heap->E (.ref C) none H->X.xe (.ref e) s
theorem pxM{P:Program}{w:World}{K:PySem.W.Frag}{mg:Str->Option Value}{base:Heap}{N:List Str}{qual:Str}{scope:Scope}{f:Addr}{cd:Value}{A:Around}{outer:List Env}{s:Shared}{H:Hp}{E:XK}:Zz45 (cxOf (CXW P w) P w K mg base N qual scope f cd A outer s H E) E:=
 λ_ _ _ _ _ _ _ I hm F hE=>Zt6 Z Z Z I hm F hE
end
section
variable{X:Cx}{pins pn:List (Addr×Obj)}{σ σ1:St}{H1 H2:Hp}{s1 s2 s':Shared}{N':List Str}{scope:Scope}{fp:List Addr}{Cc:Addr}{cl:List (Str×Addr)}{ev acc:Value}{E:XK}{E':Value->Shared->Prop}{use:Option (Value->Sem Unit)}{Q:Value->Shared->Prop}
theorem ZX7(PX:Zz45 X E)(hst:X.stack=X.env::X.outer)(hfr:X.env.frame=some X.env.locals)(hex:X.ex=[])(I2:Inv X pins σ H2 s2)(f2:∀b∈fp,FpOk X pins H2 b)(hC:s2.heap.objs.size<=Cc)
  (I1:Inv (cxC X N' scope Cc s2 H2 fp) pn σ1 H1 s1)(hpn:∀b∈fp,∃o,(b,o)∈pn)(hx:CXW X.prog X.w X.stack H1 s1 E ev s'):
  wpAny (model X.prog X.w) X.A (noteFrame ev<|compEnvC scope cl Cc X.env) (λ_ s''=>compPost (model X.prog X.w) X.A X.xe use Q acc Cc (.error ev) s'') E' s':=by
 obtain⟨e,Cl,H',rfl,ho,hg,u,ok,F,hE⟩:=hx;have J1:Inv (cxC X N' scope Cc s2 H2 fp) pn σ1 H' s':=I1.call' (ch:=[]) ho u ok hg (λ_ z=>nomatch z)
 have hold:∀b,s'.heap.get? b=none->s1.heap.get? b=none:=λb z=>by
  cases q:s1.heap.get? b with
  |none=>rfl
  |some o=>
   obtain⟨v,g⟩:=u.there b o q B;rw[z]at g;cases g
 have key:∀b,s1.heap.get? b=none->s2.heap.get? b=none:=λb z=>by
  cases q:s2.heap.get? b with
  |none=>rfl
  |some o=>
   by_cases hb:b∈fp
   ·obtain⟨o',hm⟩:=hpn b hb;have g:=(I1.pin (b,o')<|Yd _ hm).1
    rw[z]at g;cases g
   ·obtain⟨v,g⟩:=I1.base.there b o q hb;rw[z]at g;cases g
 rw[Zu11 (env:=X.env) (env':=compEnvC scope cl Cc X.env) Z];obtain⟨T,a0,q,nT,fT⟩:=FlyM.base J1 F.m;have q:ZQ8 (grd X s'.heap [e,T]) X.stack e (.ref Cl) a0 .none s'.heap:=q
 rw[hst]at q;refine wpAny_looks_onW (by rw[I2.ok.frames,hst]) hfr q λg held up=>?_;rw[<-hst]at held;have FM:FlyM s1.heap H' e Cl (rawInt X.env.locals) g:=FlyM.back J1 nT fT hold F.new F.free held
 have J1g:Inv (cxC X N' scope Cc s2 H2 fp) pn σ1 H' {s' with heap:=g}:=J1.held (tk:=s'.toks) (ns:=[e,T]) (λb hb=>by
  have one:∀b,s1.heap.get? b=none->H' b=none->s2.heap.get? b=none/\H' b=none/\∀p∈[]++pn,p.1≠b:=λb n0 f0=>⟨key b n0,f0,λp hp z=>by
   have:=(I1.pin p hp).1
   rw[z,n0]at this;cases this⟩
  rcases Ye.mp hb with rfl|hb
  ·exact one _ F.new F.free
  ·rw[Yy2.mp hb];exact one _ nT fT) held.1 up
 have JX:Inv X pins σ H' {s' with heap:=g}:=I2.call' (ch:=fp) J1g.os J1g.base J1g.hok J1g.bare λb hb=>by obtain⟨f0,f1,f3,f4,f5,f6⟩:=f2 b hb;exact⟨f4,f1,f5,f6⟩
 obtain⟨m,hn,_⟩:=J1g.loc;have hn:g.Ns Cc m:=hn
 have goal:∃m,g.Ns Cc m/\∀h',Heap.SameBut Cc g h'->∀cenv:Env,cenv.locals=Cc->wpAny (model X.prog X.w) X.A (PySem.passOn "comprehension.variables-let-go" (.ref e) cenv:Sem Value) (λ_ _=>False) X.xe {s' with heap:=h'}:=by
  refine⟨m,hn,λh' hs' cenv _=>?_⟩;have JX':Inv X pins σ H' {s' with heap:=h'}:=Inv.turned (s:={s' with heap:=g}) JX (t':=s'.toks) (it:=Cc) (λb ob hb e=>hs'.extBut b ob hb e) J1g.free (Y0S<|Yf I2.lt hC) (.inr<|Yv I2.sz hC)
   (λx c e=>by obtain⟨v,z⟩:=I2.cell x c e;exact Ym<|Yf z.lt hC) λp hp=>Ym (Yf (Yi (I2.pin p hp).1) hC)
  obtain⟨oC,es,ep,hoC,hdC,_⟩:=id hn;have far:∀b o vs,g.get? b=some o->o.data=.fields vs->b≠Cc:=λb o vs q d z=>by rw[z,hoC]at q;cases q;rw[hdC]at d;cases d
  have FM':FlyM s2.heap H' e Cl (rawInt X.env.locals) h':=by obtain⟨oe,vs,T1,oT,ts,a1,y1,y2,y3,y4,y5,y6,y7,y8,y9,nT1,fT1⟩:=FM.ex;exact⟨⟨oe,vs,T1,oT,ts,a1,(hs'.2 e<|far e oe vs y1 y3).trans y1,y2,y3,y4,y5,y6,(hs'.2 T1<|far T1 oT ts y7 y8).trans y7,y8,y9,key _ nT1,fT1⟩,key _ FM.new,FM.free⟩
  obtain⟨T2,a2,q2,nT2,fT2⟩:=FlyM.base JX' FM';refine Yz9 q2 λmk g4 hm F4 up4=>?_;have J4:Inv X pins σ H' {s' with heap:=g4}:=Inv.held (s:={s' with heap:=h'}) JX' (tk:=s'.toks) (ns:=[e,T2]) (λb hb=>by
   have one:∀b,s2.heap.get? b=none->H' b=none->X.s₀.heap.get? b=none/\H' b=none/\∀p∈X.pn++pins,p.1≠b:=λb n0 f0=>⟨I2.was hex n0,f0,λp hp z=>by
    have:=(I2.pin p hp).1
    rw[z,n0]at this;cases this⟩
   rcases Ye.mp hb with rfl|hb
   ·exact one _ FM'.new FM'.free
   ·rw[Yy2.mp hb];exact one _ nT2 fT2) F4.1 up4
  exact PX pins σ H' _ e Cl mk J4 hm (FlyM.back JX' (I2.was hex nT2) fT2 (λb z=>JX'.was hex z) (I2.was hex FM'.new) FM'.free F4) hE
 cases use<;>exact goal
end
theorem ZA3{R:Result->Shared->Prop}{elt target iter:Expr}{scope:Scope}{pos:Pos}{it acc:Value}(XX:Nat->Shared->Prop){XE:Value->Shared->Prop}(hx:∀e s',XE e s'->notedBy (model prog w) A env (λe s'=>R (.error e) s') e s')
  (turn:∀n s,XX n s->wpAny (model prog w) A (pyNext it) (λr s1=>match r with
   |none=>R (.ok .next) s1
   |some v=>wpAny (model prog w) A (letOwnedTupleGo target it v) (λ_ s2=>wpAny (model prog w) A (assign target env v) (λ_ s3=>
     wpAny (model prog w) A (forIn ifs true λc r=>if r=true then do let ok <-isTrue c env (eval c env);pure (ForInStep.yield ok) else pure (ForInStep.yield r)) (λok s4=>
      if ok=true then wpAny (model prog w) A (eval elt env) (λx s5=>
       wpAny (model prog w) A (call (.builtin "list.append") [acc,x]) (λ_ s6=>∃m,m<n/\XX m s6) (λ_ _=>False) s5) XE s4
      else ∃m,m<n/\XX m s4) (λ_ _=>False) s3) (λ_ _=>False) s2) (λ_ _=>False) s1) (λ_ _=>False) s)
  (n:Nat)(h:XX n s):codeAny (model prog w) A (.compLoop (.ListComp elt [⟨target,iter,ifs,0⟩] scope pos) 0 it acc env) R s:=by
 refine codeAny_loop Z XX (λn s hI=>?_) n h;show wpAny _ A ((compTurn (.ListComp elt [⟨target,iter,ifs,0⟩] scope pos) 0 it acc env).onRaise λx=>do noteFrame x env;theTreesLotGoes x) _ _ s
 refine wpAny_noted ?_;rw[compTurn_list];refine Yy1 (Yy35<|Yy1<|Yy07 (turn n s hI) (λr s1 h1=>?_) λ_ _ z=>z.elim);cases r with
 |none=>exact Yh h1
 |some v=>
  refine Yy1 (Yy07 h1 (λ_ s2 h2=>?_) λ_ _ z=>z.elim);refine Yy1 (Yy07 h2 (λ_ s3 h3=>Yy1<|Yy07 h3 (λok s4 h4=>?_) λ_ _ z=>z.elim) λ_ _ z=>z.elim);cases ok with
  |false=>exact Yh ⟨Z,h4⟩
  |true=>
   exact Yy1 (Yy1<|Yy07 h4 (λx s5 h5=>Yy1<|Yy07 h5 (λ_ s6 h6=>Yh<|Yh ⟨Z,h6⟩) λ_ _ z=>z.elim) hx)
section
variable{X:Cx}{N':List Str}{o:Nat}{fr:List Nat}{scope:Scope}{elt tg iter:Expr}{ifs:List Expr}{pos:Pos}{wi:TI}{g:TG}{tt:TT}{te:TE}
theorem ZL11(PX:Zz45 X E)(hst:X.stack=X.env::X.outer)(hfr:X.env.frame=some X.env.locals)(hex:X.ex=[])(hc:X.calm=true)(XW:CompScope sc0 N0 N' o fr scope)(hi:PI X tg iter wi)(ho:OwnG o g)
  (hg:∀C s H fp,PG (cxC X N' scope C s H fp) tg g)
  (ht:∀C s H fp,PTs (cxC X N' scope C s H fp) ifs tt)
  (he:∀C s H fp pn,PE (ZY8 (cxC X N' scope C s H fp) pn λ_=>E) elt te)
  (hs:∀x,foldedSetIterable iter X.env x=pure x)(hsc:X.env.scope=sc0)(hN0:X.N=N0)(I:Inv X pins σ H s)(h:tLc wi g tt te o fr σ H Qv)
  {use:Option (Value->Sem Unit)}{Q:Value->Shared->Prop}
  (fin:∀C oC D m H' ys s',Inv X (pins++[(C,oC)]) σ (upd H' D<|.lst ys) s'->Qv (.ref D) (upd H' D<|.lst ys)->s'.heap.Ns C m->H' C=none->C≠D->
   C≠X.env.locals->X.s₀.heap.objs.size<=C->(∀x c,X.env.cells.lookup x=some c->c≠C)->(∀p∈X.pn++pins,p.1≠C)->compPost (model X.prog X.w) X.A X.xe use Q (.ref D) C (.ok .next) s'):
  wpAny (model X.prog X.w) X.A (comprehension (.ListComp elt [⟨tg,iter,ifs,0⟩] scope pos) scope X.env (firstIterPos [⟨tg,iter,ifs,0⟩] pos) (newList []) false (eval iter X.env) use) Q X.xe s:=by
 refine wpAny_comprehension_free (use:=use) Z hs (ZB3<|XW.cells hsc I) XW.kind XW.loc' (Yy07 (hi pins s σ H _ I h) (λxv s1 h1=>Yy07 h1 (λitv s2 h2=>?_) λ_ _ z=>z) λ_ _ z=>z);obtain⟨it,fp,tn,XX,H2,rfl,I2,T,st2,f2,W,⟨m0,w0⟩,turn⟩:=h2;have hfl:∀b∈fp,b<s2.heap.objs.size:=λb hb=>by obtain⟨ob,e,_⟩:=T.obj 0 _ st2 b hb;exact Yi e
 refine Y0c (wpAny_newFunctionEnv XW.nocell' (by intro y hy;simp at hy) (λh1 hns1 hsb1=>?_) XW.kind);dsimp only at hns1 hsb1 ⊢;generalize hH2:s2.heap.push {cls:=.type "list",dict:=none,data:=.seq ([]:List Value).toArray}=G at hns1 hsb1 ⊢;have hCe:G.objs.size=s2.heap.objs.size+1:=by rw[<-hH2,Y0n]
 have hC:s2.heap.objs.size<=G.objs.size:=by rw[hCe];exact Y0W _
 have hDC:s2.heap.objs.size≠G.objs.size:=by rw[hCe];exact Ym (Y0d _)
 have old:∀b ob,s2.heap.get? b=some ob->h1.get? b=some ob:=λb ob e=>
  hsb1.extBut b ob (Ym<|Yf (Yi e) hC) (Yy5 _<|hH2▸Yy5 _ e)
 have hacc:h1.get? s2.heap.objs.size=some (ZJ []):=hsb1.extBut _ _ hDC (Yy5 _<|hH2▸Yk _ Z);have st1:tn 0 h1:=T.keep _ _ _ st2 λb _ ob e=>old b ob e
 have fpC:∀{us:List Value}{H':Hp},(∀b∈fp,H' b=none)->∀b∈fp,FpOk (cxC X N' scope G.objs.size s2 H2 fp) [(s2.heap.objs.size,ZJ us)] H' b:=λ{us H'} hn b hb=>by
  obtain⟨f0,f1,f3,f4,f5,f6⟩:=f2 b hb;refine⟨hn b hb,Ym<|Yf (hfl b hb) hC,λz=>?_,.inl hb,λx c e=>f5 x c<|XW.sub hsc I2 x c e,λp hp=>?_⟩
  ·rcases Ye.mp (I2.stkSub b z) with q|q
   ·exact f1 q
   ·exact f3 q
  ·have e:p=(s2.heap.objs.size,ZJ us):=by simpa using (show p∈([]:List (Addr×Obj))++[(s2.heap.objs.size,ZJ us)] from hp)
   subst e;exact Y0S (hfl b hb)
 have loop:∀s3:Shared,s3={s2 with heap:=h1,toks:=s2.toks+([]:List (Str×Value)).length}->
   codeAny (model X.prog X.w) X.A (.compLoop (.ListComp elt [⟨tg,iter,ifs,0⟩] scope pos) 0 (.ref it) (.ref s2.heap.objs.size)<|compEnvC scope (Zb4 X.env.cells scope.names []) G.objs.size X.env)
    (compPost (model X.prog X.w) X.A X.xe use Q (.ref s2.heap.objs.size) G.objs.size) s3:=by
  rintro s3 rfl;refine ZA3 (XE:=λe s'=>∃pn σ1 H1 s1,Inv (cxC X N' scope G.objs.size s2 H2 fp) pn σ1 H1 s1/\(∀b∈fp,∃o,(b,o)∈pn)/\CXW X.prog X.w X.stack H1 s1 E e s') (hx:=λe s' zz=>by obtain⟨pn,σ1,H1,s1,J1,hpn,q⟩:=zz;exact ZX7 PX hst hfr hex I2 f2 hC J1 hpn q) (λn s'=>∃i σ' H' ys us,Inv (cxC X N' scope G.objs.size s2 H2 fp) [(s2.heap.objs.size,ZJ us)] σ' H' s'/\σ'=σC o fr σ/\Vals ys us/\tn i s'.heap/\(∀b∈fp,H' b=none)/\W i n ys H') ?_ m0
   ⟨0,_,H2,[],[],I2.block XW hsc hN0 f2 hfl hC (Yy6 _) hDC old hns1 hacc,Z,.nil,st1,λb hb=>(f2 b hb).1,w0⟩
  rintro n s' ⟨i,σ',H',ys,us,I',rfl,rv,st',fr',w'⟩;rcases turn i n ys H' w' with ⟨stop,hz,q⟩|⟨go,hz,step⟩
  ·refine thn (T.done (cxC X N' scope G.objs.size s2 H2 fp) Z Z Z hc i _ s' _ H' _ I' (fpC fr') st' stop) λr s4 zz=>?_;obtain⟨hr,I4⟩:=zz;subst hr;obtain⟨oC,m,hoC,hn,J4⟩:=I2.unblock f2 hC (Yy6 _) hDC I4 rv hz;exact fin _ oC _ m H' ys s4 J4 (q _ (I4.pin (s2.heap.objs.size,ZJ us) B).2.1) hn I4.free (YU hDC) (Y0S<|Yf I2.lt hC) (Yv I2.sz hC)
    (λx c e=>by obtain⟨v,z⟩:=I2.cell x c e;exact Ym<|Yf z.lt hC) λp hp=>Ym (Yf (Yi (I2.pin p hp).1) hC)
  ·refine thn (T.item (cxC X N' scope G.objs.size s2 H2 fp) Z Z Z hc i _ s' _ H' _ I' (fpC fr') st' go) λr s4 hz0=>?_;obtain⟨u,hr,h4⟩:=hz0;subst hr;refine thn h4 λ_ s5 hz0=>?_;obtain⟨x,H5,I5,r5,y5,st5,fr5⟩:=hz0;have hst:=step x H5 y5
   have hst':=ho x (List.replicate o none) (fr.map λj=>(σ[j]?).join) H5 _ (Yx ..) hst;have I5':=I5.pinned (fpC (us:=us) fr5) (T.obj _ _ st5)
   refine thn (hg _ _ _ _ _ s5 _ H5 x u _ I5' r5 hst') λ_ s6 hz0=>?_;obtain⟨σ6,H6,I6,⟨ow,hol,e6⟩,q6⟩:=hz0;subst e6;refine thn (ht _ _ _ _ _ s6 _ H6 _ I6 q6) λb s7 hz0=>?_;obtain⟨H7,I7,q7⟩:=hz0;have back:∀{us':List Value}{σ8:St}{H8:Hp}{s8:Shared},Inv (cxC X N' scope G.objs.size s2 H2 fp) ([(s2.heap.objs.size,ZJ us')]++ZI1 fp s5.heap) (ow++fr.map λj=>(σ[j]?).join) H8 s8->
     Inv (cxC X N' scope G.objs.size s2 H2 fp) [(s2.heap.objs.size,ZJ us')] (σC o fr σ) H8 s8/\tn (i+1) s8.heap/\∀b∈fp,H8 b=none:=λ{us' σ8 H8 s8} I8=>by
    refine⟨I8.unpinned.weak ?_ λj v e=>?_,T.keep _ _ _ st5 λb hb ob e=>(I8.pin (b,ob)<|Yd _<|Yd _<|Zz21 hb e).1,λb hb=>?_⟩
    ·unfold σC;rw[Yy3,Yy3,Yx,hol]
    ·unfold σC at e;by_cases hj:j<o
     ·rw[Ys (by rwa[Yx]),Y0X,if_pos hj]at e;cases e
     ·rw[Yn (by rw[Yx];exact Y2K.mp hj),Yx]at e;rwa[Yn (by rw[hol];exact Y2K.mp hj),hol]
    ·obtain⟨ob,e,_⟩:=T.obj _ _ st5 b hb;exact(I8.pin (b,ob)<|Yd _<|Yd _<|Zz21 hb e).2.1
   cases b with
   |false=>
    rw[if_neg Yo]at q7 ⊢;obtain⟨m',hm,w7⟩:=q7;obtain⟨I8,st8,fr8⟩:=back (us':=us) (σ8:=[]) I7;exact⟨m',hm,i+1,_,H7,ys,us,I8,Z,rv,st8,fr8,w7⟩
   |true=>
    rw[if_pos Z]at q7 ⊢;have hpn:∀b∈fp,∃o,(b,o)∈[(s2.heap.objs.size,ZJ us)]++ZI1 fp s5.heap:=λb hb=>by obtain⟨ob,e,_⟩:=T.obj _ _ st5 b hb;exact⟨ob,Yd _<|Zz21 hb e⟩
    refine Yy07 (he _ _ _ _ _ _ s7 _ H7 _ I7.inTry q7) (λy s8 zz=>?_) λev s8 zz=>by obtain⟨σ1,H1,s1,J1,q⟩:=zz;exact⟨_,σ1,H1,s1,J1,hpn,q⟩
    obtain⟨yv,H8,I8',r8,m',hm,w8⟩:=zz;have I8:=I8'.outTry
    obtain⟨aD,nD,_,_,_⟩:=I8.pin (s2.heap.objs.size,ZJ us) B;have aD:s8.heap.get? s2.heap.objs.size=some (ZJ us):=aD
    have nD:H8 s2.heap.objs.size=none:=nD;have hul:us.length<=sizeLine:=by rw[<-rv.length];exact Y1m hz
    refine append_at (hsz:=by show us.toArray.size<=sizeLine;rwa[Ya]) aD λh9 hs9 hD9=>?_;have hD9':h9.get? s2.heap.objs.size=some (ZJ<|us++[y]):=by
     rw[hD9];show some ({cls:=.type "list",data:=.seq (us.toArray.push y) (us.length+1)}:Obj)=some {cls:=.type "list",data:=.seq (us++[y]).toArray (us++[y]).length}
     rw[Yy3,Yw,List.push_toArray]
    have I9:Inv (cxC X N' scope G.objs.size s2 H2 fp) (ZI1 fp s5.heap) (ow++fr.map λj=>(σ[j]?).join) H8 {s8 with heap:=h9}:=
     (I8.pins_of (pins':=ZI1 fp s5.heap) λp hp=>I8.pin p<|Yd _<|Yd _ hp).turned (t':=s8.toks) (it:=s2.heap.objs.size) (λb ob hb e=>hs9.extBut b ob hb e) nD hDC (.inr<|Yy6 _)
      (λx c e=>by obtain⟨v,z⟩:=I2.cell x c (XW.sub hsc I2 x c e);exact Ym z.lt)
      λp hp=>by obtain⟨hb,_⟩:=ZS2 (show p∈ZI1 fp s5.heap from by simpa[cxC] using hp);exact Ym (hfl p.1 hb)
    have I9':Inv (cxC X N' scope G.objs.size s2 H2 fp) ([(s2.heap.objs.size,ZJ<|us++[y])]++ZI1 fp s5.heap) (ow++fr.map λj=>(σ[j]?).join) H8 {s8 with heap:=h9}:=
     I9.pins_of λp hp=>by
      rcases Yj.mp hp with z|z
      ·have e:p=(s2.heap.objs.size,ZJ<|us++[y]):=by simpa using z
       subst e;refine⟨hD9',nD,hDC,λz=>?_,λv z=>nomatch z⟩;obtain⟨_,ob,hob,_⟩:=I2.stack.mem z;exact Y0p _ (Yi hob)
      ·exact I9.pin p (Yd _ z)
    obtain⟨I10,st10,fr10⟩:=back (us':=us++[y]) (σ8:=[]) I9';exact⟨m',hm,i+1,_,H8,ys++[yv],us++[y],I10,Z,Vals.append rv<|.cons r8 .nil,st10,fr10,w8⟩
 exact codeAny_compStart_list (loop _ Z) (T.self _ 0 _ _ _ st1<|loop _ Z)
theorem Zd13(PX:Zz45 X E)(hst:X.stack=X.env::X.outer)(hfr:X.env.frame=some X.env.locals)(hex:X.ex=[])(hc:X.calm=true)(XW:CompScope sc0 N0 N' o fr scope)(hi:PI X tg iter wi)(ho:OwnG o g)
  (hg:∀C s H fp,PG (cxC X N' scope C s H fp) tg g)
  (ht:∀C s H fp,PTs (cxC X N' scope C s H fp) ifs tt)
  (he:∀C s H fp pn,PE (ZY8 (cxC X N' scope C s H fp) pn λ_=>E) elt te)
  (hs:∀x,foldedSetIterable iter X.env x=pure x:=by intro _;rfl)(hsc:X.env.scope=sc0:=by rfl)(hN0:X.N=N0:=by rfl):PE X (.ListComp elt [⟨tg,iter,ifs,0⟩] scope pos) (tLc wi g tt te o fr):=by intro pins s σ H Q I h;rw[eval_ListComp];refine ZL11 PX hst hfr hex hc XW hi ho hg ht he hs hsc hN0 I h (use:=none) λC oC D m H' ys s' XX q hn nC hCD hCL hCs hCc hCp=>?_;refine⟨m,hn,λh' hs'=>⟨.ref D,upd H' D<|.lst ys,?_,Z,q⟩⟩;refine XX.unpinned.turned (t':=s'.toks) (it:=C) (λb ob hb e=>hs'.extBut b ob hb e) (by rwa[Zd hCD]) hCL (.inr hCs) hCc hCp
end
end L2
namespace My
open PySem L2
theorem ZR13:∀k l,l.length=k->(∀c∈l,48<=c/\c<=57)->NumText.digitsVal l<10^k
 |0,l,h,_=>by obtain rfl:=YH.mp h;exact Nat.one_pos
 |k+1,l,h,hd=>by
  rcases Y3u l with rfl|⟨L,c,e⟩
  ·cases h
  ·rw[Y3v]at e;subst e;have hL:L.length=k:=by rw[Yy3,Yw]at h;lia
   have ih:=ZR13 k L hL λc hc=>hd c (Yu _ hc)
   have:=hd c (Yd _ Yb)
   rw[Y2o,Nat.pow_succ];grind
theorem Yz13:∀k l,l.length=k->l≠[]->(∀c∈l,48<=c/\c<=57)->(l=[48]\/l.head?≠some 48)->dg (NumText.digitsVal l)=l
 |0,l,h,hn,_,_=>absurd (YH.mp h) hn
 |k+1,l,h,_,hd,hz=>by
  rcases Y3u l with rfl|⟨L,c,e⟩
  ·cases h
  ·rw[Y3v]at e;subst e;have hL:L.length=k:=by rw[Yy3,Yw]at h;omega
   have hc:=hd c (Yd _ Yb);rw[Y2o];cases L with
   |nil=>
    show dg (0*10+(c-48))=[c];rw[Zc12 XT];congr 1;grind
   |cons a r=>
    have ha:(a::r).head?≠some 48:=by
     rcases hz with e|e
     ·rw[Y1h]at e
      have:=YX List.length e
      rw[Yq,Yy3,Yw,Yw]at this;lia
     ·exact e
    have ih:=Yz13 k (a::r) hL B (λc hc=>hd c<|Yu _ hc) (.inr ha);have pos:NumText.digitsVal (a::r)≠0:=λz=>by rw[z]at ih;rw[<-ih]at ha;exact ha rfl
    rw[Zf12 O,show(NumText.digitsVal (a::r)*10+(c-48))/10=NumText.digitsVal (a::r) by grind,ih];congr 2;grind
theorem ZF9{w:Str}(h:ZZ2 w.cps.toList=true):∃i:Int,w=nT i/\-(10^60)<i/\i<10^60:=by
 obtain⟨h1,h2,h3,h4⟩:=YO h;have ne:figs w.cps.toList≠[]:=λz=>by rw[z]at h1;cases h1
 have lt:NumText.digitsVal (figs w.cps.toList)<10^60:=Yf (ZR13 _ _ Z h3) (Y2g J h2);by_cases hm:w.cps.toList.head?=some 45
 ·have hf:figs w.cps.toList=w.cps.toList.tail:=if_pos hm;have hcs:w.cps.toList=45::figs w.cps.toList:=by
   rw[hf];cases e:w.cps.toList with
   |nil=>rw[e]at hm;cases hm
   |cons a r=>rw[e]at hm;cases hm;rfl
  have hz:(figs w.cps.toList).head?≠some 48:=h4.elim (λe=>by rw[e]at hm;cases hm) id;have hv:=Yz13 _ _ Z ne h3 (.inr hz)
  have pos:NumText.digitsVal (figs w.cps.toList)≠0:=λz=>by rw[z]at hv;rw[<-hv]at hz;exact hz rfl
  refine⟨-(NumText.digitsVal (figs w.cps.toList):Int),Zp4 ?_,O,O⟩;rw[Zl2];unfold sgT;rwa[if_pos O,Int.natAbs_neg,Int.natAbs_natCast,hv]
 ·have hf:figs w.cps.toList=w.cps.toList:=if_neg hm;rw[hf]at h3 h4 ne lt;have hv:=Yz13 _ _ Z ne h3 h4
  refine⟨(NumText.digitsVal w.cps.toList:Int),Zp4 ?_,O,O⟩;rw[Zl2];unfold sgT;rw[if_neg O,Int.natAbs_natCast,hv]
theorem num_iff{w:Str}:ZZ2 w.cps.toList=true↔∃i:Int,w=nT i/\-(10^60)<i/\i<10^60:=
 ⟨ZF9,λzz=>by obtain⟨i,e,h1,h2⟩:=zz;rw[e,Zl2];exact ZZ12 h1 h2⟩
theorem ZO11:∀{A:List (List Nat)}{a:List Nat},a∈A->a.length<=(jn c A).length/\∀d∈a,d∈jn c A
 |[b],a,h=>by obtain rfl:=Yy2.mp h;exact⟨Yy6 _,λd hd=>hd⟩
 |b::b'::XU,a,h=>by
  show a.length<=(b++c::jn c (b'::XU)).length/\∀d∈a,d∈b++c::jn c (b'::XU);rw[Yy3,Yq];rcases Ye.mp h with rfl|h
  ·exact⟨O,λd hd=>Yu _ hd⟩
  ·obtain⟨h1,h2⟩:=ZO11 (c:=c) h;exact⟨O,λd hd=>Yd _<|Yc _<|h2 d hd⟩
theorem Zp8:∀A:List (List Nat),A.length<=(jn c A).length+1
 |[]=>Yr _
 |[b]=>by rw[Yw];lia
 |b::b'::XU=>by
  have:=Zp8 (c:=c) (b'::XU)
  have e:(jn c<|b::b'::XU).length=b.length+((jn c<|b'::XU).length+1):=Yy3;have e2:(b::b'::XU).length=(b'::XU).length+1:=rfl
  lia
theorem Zh3(x:Str)(c:Nat):jn c ((Txt.split x ⟨#[c]⟩).map λp=>p.cps.toList)=x.cps.toList:=by rw[<-Zo2,StrLaws.join_split]
theorem ZI5(x:Str)(c:Nat):(Txt.split x ⟨#[c]⟩).length<=x.length+1:=by have h:=Zp8 (c:=c) ((Txt.split x ⟨#[c]⟩).map λp=>p.cps.toList);rwa[Zh3,Yy9,<-Zz81]at h
theorem ZA2{x p:Str}{c:Nat}(h:p∈Txt.split x ⟨#[c]⟩):p.length<=x.length/\∀d∈p.cps.toList,d∈x.cps.toList:=by have q:=ZO11 (c:=c) (List.mem_map_of_mem (f:=λp:Str=>p.cps.toList) h);rw[Zh3]at q;rwa[Zz81,Zz81]
theorem ascii_iff{x:Str}:(x.cps.all λc=>decide (c<128))=true↔∀d∈x.cps.toList,d<128:=by rw[<-Y2T,Yy03];exact⟨λh d hd=>YO<|h d hd,λh d hd=>YG<|h d hd⟩
theorem Zz75{x p:Str}(h:p∈Txt.split x ⟨#[c]⟩)(ha:(x.cps.all λc=>decide (c<128))=true):(p.cps.all λc=>decide (c<128))=true:=
 ascii_iff.mpr λd hd=>ascii_iff.mp ha d ((ZA2 h).2 d hd)
end My
namespace L2
open PySem PySem.Spec PyProof.Rows
section
variable{X:Cx}
noncomputable def repT(z:Str)(n:Nat):Str:=⟨(List.replicate n z.cps).foldl (·++·) #[]⟩
theorem Zn11:OpR X (binaryOp .Mult) (λx y H Q=>∃(z:Str)(n:Nat),x=.str z/\y=.int n/\2<=n/\n<=1000/\1<=z.length/\z.length<=1000/\(repT z n).length<=sizeLine/\Q (.str (repT z n)) H):=by
 intro pins s σ H x y v u Q I rx ry h;obtain⟨z,n,rfl,rfl,n2,n3,l1,l2,l3,q⟩:=h;obtain⟨t,rfl⟩:=rx;obtain⟨t',rfl⟩:=ry;have c1:¬((n:Int)<1):=O
 have c2:((n:Int) == 1||z.length == 0)=false:=by rw[Bool.or_eq_false_iff];exact⟨Y0C.mpr O,Y0C.mpr O⟩
 have big:z.length*n<=1000*1000:=Yy11 l2 n3;have lim:1000*1000<=sizeLine:=J
 refine PySem.P.mul_str (by simp;lia) (λ_ _ z1=>?_) (λ_ _=>?_) ?_
 ·have e:(z.length:Int)<=(2^63-1)/(n:Int):=by
   refine Int.le_ediv_of_mul_le O ?_;have b2:((z.length*n:Nat):Int)<=1000*1000:=O
   rw[Int.natCast_mul]at b2;lia
  lia
 ·show decide _=false;refine YR ?_;rw[YA];lia
 ·rw[if_neg c1,if_neg (by rw[c2];decide)];exact⟨l3,.str<|repT z n,H,I.tok _,⟨_,Z⟩,q⟩
end
section
variable{X:Cx}{a b c d:Expr}{ta tb tc td:TE}{pos:Pos}
theorem Zz46(ha:PE X a ta)(hb:PE X b tb)(hc:PE X c tc)(hd:PE X d td)(s0:starEach [a,b,c,d] X.env=(false,eval a X.env)::starEach [b,c,d] X.env:=by rfl)(s1:starEach [b,c,d] X.env=(false,eval b X.env)::starEach [c,d] X.env:=by rfl)(s2:starEach [c,d] X.env=(false,eval c X.env)::starEach [d] X.env:=by rfl)(s3:starEach [d] X.env=[(false,eval d X.env)]:=by rfl):PE X (.List [a,b,c,d] pos) (tLst<|ZL3 ta<|ZL3 tb<|ZL3 tc<|ZL3 td tNil):=ZT (Zz0 ha (Zz0 hb (Zz0 hc (Zz0 hd Zz3 s3) s2) s1) s0)
end
end L2
namespace My
open PySem L2
noncomputable def Cl(k:Nat)(x:Str):Prop:=(∀d∈x.cps.toList,d<128/\d≠10)/\x.length<=k
noncomputable def pl(ls T U:List Int):Prop:=HT.ltP (sumL ls T,T) (sumL ls U,U)=true
noncomputable def OrdL(ls:List Int)(m:Nat)(os:List Int):Prop:=os.Perm (rgL m)/\os.Pairwise λx y=>lnz ls x<lnz ls y\/(lnz ls x=lnz ls y/\x<y)
structure Ent where
 T:List Int
 I:List Int
 XY:List Int
deriving DecidableEq
end My
namespace My
theorem un1{α:Type}{P:List α->Prop}(h:∀a,P [a])(l:List α)(e:l.length=1):P l:=by obtain⟨a,rfl⟩:=len1 e;exact h a
theorem un2{α:Type}{P:List α->Prop}(h:∀a b,P [a,b])(l:List α)(e:l.length=2):P l:=by obtain⟨a,b,rfl⟩:=len2 e;exact h a b
theorem un3{α:Type}{P:List α->Prop}(h:∀a b c,P [a,b,c])(l:List α)(e:l.length=3):P l:=by obtain⟨a,b,c,rfl⟩:=len3 e;exact h a b c
theorem un4{α:Type}{P:List α->Prop}(h:∀a b c d,P [a,b,c,d])(l:List α)(e:l.length=4):P l:=by obtain⟨a,b,c,d,rfl⟩:=len4 e;exact h a b c d
end My
namespace L2
open PySem PySem.Spec PyProof.Rows
theorem Zf1{N P:List Str}{sc:Scope}(h:sc.kind=.function/\sc.isCoroutine=false/\sc.isGenerator=false/\N.Nodup/\N.take P.length=P/\(∀x∈P,sc.names.lookup x=some .local\/sc.names.lookup x=some .cell)/\∀y∈sc.names,y.2≠.free):FnScope N P sc:=⟨h.1,h.2.1,h.2.2.1,h.2.2.2.1,h.2.2.2.2.1,h.2.2.2.2.2.1,h.2.2.2.2.2.2⟩
structure DfA (K:PySem.W.Frag) (mg:Str->Option Value) (x:Str) (st:Stmt) (f:Addr) (fd:FuncData) (ps:List Str):Prop where
 fn:Fun K x x st f fd
 bi:Binds K fd ps []
 mm:mg x=some (.ref f)
theorem Zz6 {X:Cx} {CX:CXT} {k m:Nat} {f:Addr} {fd:FuncData} {ps:List Str} {sp:Sp} {x:Str} {st:Stmt} {e:Expr} {es:List Expr} {t:TA} {p pos:Pos} {E:XK} (F:FnOk X.prog X.w X.K X.mg X.base CX k f fd ps sp) (hr:Room m X.A) (d:DfA X.K X.mg x st f fd ps) (hx:Yz2 CX X E) (ha:PA X (e::es) t) (hk:k<=m:=by decide) (hg:Gl X x:=by exact Z) (hdb:(x == ("__debug__":Str))=false:=by decide) (he:starEach (e::es) X.env=(false,eval e X.env)::starEach es X.env:=by rfl) (hpl:(backTo pos<|starEach es X.env).any (·.1)=false:=by rfl):PE X (.Call (.Name x p) (e::es) [] pos) (ZU12 sp [] E t):=
 Zj11 F (hr.mono hk) hg d.mm d.fn.kp d.bi .nil hx ha hdb he hpl
noncomputable def ScP(N P:List Str)(sc:Scope):Prop:=sc.kind=.function/\sc.isCoroutine=false/\sc.isGenerator=false/\N.Nodup/\N.take P.length=P/\(∀x∈P,sc.names.lookup x=some .local\/sc.names.lookup x=some .cell)/\∀y∈sc.names,y.2≠.free
noncomputable instance (N P:List Str) (sc:Scope):Decidable (ScP N P sc):=by unfold ScP;infer_instance
section
variable{P:Program}{w:World}{K:PySem.W.Frag}{mg:Str->Option Value}{base:Heap}{x:Str}{st:Stmt}{f:Addr}{fd:FuncData}{ps:List Str}{k:Nat}{sp:Sp}
noncomputable abbrev OkQ(P:Program)(w:World)(base:Heap)(CX:CXT)(_:DfA K mg x st f fd ps)(k:Nat)(sp:Sp):Prop:=FnOk P w K mg base CX k f fd ps sp
theorem DfA.ok(q:DfA K mg x st f fd ps)(N:List Str)(XW:ScP N ps (Zz9 st))(len:∀vs H Q E,sp vs H Q E->vs.length=ps.length)
  (hbody:∀cdv A outer s H vs Q E,Room k (A.deeper<|envOfC x (Zz9 st) s.heap.objs.size f cdv)->sp vs H Q E->
   ∃t,PSs (cxOf CX0 P w K mg base N x (Zz9 st) f cdv A outer s H E).nox (Zs1 st) t/\t {nx:=λ_ H'=>Q .non H',rt:=Q} (start N vs) H):OkQ P w base CX0 q (k+1) sp:=q.fn.ok (Zf1 XW) len hbody
theorem DfA.okX(q:DfA K mg x st f fd ps)(N:List Str)(XW:ScP N ps (Zz9 st))(len:∀vs H Q E,sp vs H Q E->vs.length=ps.length)
  (hbody:∀cdv A outer s H vs Q E,Room k (A.deeper<|envOfC x (Zz9 st) s.heap.objs.size f cdv)->sp vs H Q E->
   ∃t,PSs (cxOf (CXW P w) P w K mg base N x (Zz9 st) f cdv A outer s H E) (Zs1 st) t/\t {nx:=λ_ H'=>Q .non H',rt:=Q} (start N vs) H):OkQ P w base (CXW P w) q (k+1) sp:=q.fn.okX (Zf1 XW) len hbody
end
end L2
namespace My
open PySem L2
noncomputable def FQ(K:PySem.W.Frag)(mg:Str->Option Value)(x:Str)(st:Stmt)(ps:List Str):Prop:=∃f fd,DfA K mg x st f fd ps
theorem fq_mk{K:PySem.W.Frag}{h:Heap}{mg:Str->Option Value}{x:Str}{st:Stmt}{ps:List Str}{f:Addr}{oc:Value}{od an:Option Addr}{osl:Array (Option Value)}{kV doc pm cdv ct:Value}(X:K.In h)(G:h.Ns mainGlobals mg)
  (a:PySem.W.nsIn K mainGlobals x=some (some<|.ref f))(l:K.lookup f=some ⟨oc,od,.func<|PySem.W.fnOf x x (ZZ1 st) (Zs1 st) (Zz9 st) .none kV doc pm an cdv ct,osl⟩)(c:PySem.W.codeIn K cdv x=true)(k:PySem.W.keepIn K (.ref f)=true)
  (b:∀kV doc pm an cdv ct us,us.length=ps.length->bindArgs (PySem.W.fnOf x x (ZZ1 st) (Zs1 st) (Zz9 st) .none kV doc pm an cdv ct) ⟨us,[]⟩=pure (ps.zip us)):FQ K mg x st ps:=
 ⟨f,_,ZL7 l c k,(ZL7 l c k).binds b,Y0j X G a⟩
noncomputable def TupC (K:PySem.W.Frag) (a:Addr) (xs:List V):Prop:=∃o its n,K.lookup a=some o/\o.cls=.type "tuple"/\o.data=.seq its n/\its.size<=sizeLine/\Vals xs its.toList
theorem TupC.sq(h:TupC K a xs)(H:Hp):SqT K H a xs:=.inr h
theorem const_mkT {mg:Str->Option Value} {xs:List V} {p:Addr} {od:Option Addr} {its:Array Value} {n:Nat} {osl:Array (Option Value)} (X:K.In h) (G:h.Ns mainGlobals mg) (a:PySem.W.nsIn K mainGlobals x=some (some (.ref p))) (l:K.lookup p=some ⟨.type "tuple",od,.seq its n,osl⟩) (z:its.size<=sizeLine) (r:Vals xs its.toList):∃a,mg x=some (.ref a)/\TupC K a xs:=
 ⟨p,Y0j X G a,_,its,n,l,Z,Z,z,r⟩
noncomputable def Zn5:List Str:=["count","cheapest"]
noncomputable def Za6:List Str:=["tree","row","rank"]
noncomputable def ZO1:List Str:=["number","place","next","share"]
noncomputable def isN(w:Str):Bool:=ZZ2 w.cps.toList
noncomputable def ZA12 (x0:Str) (r:List Str):Prop:=(x0∈Zn5/\r.length+1=1)\/(x0∈Za6/\r.length+1=2/\r.all isN=true)\/(x0∈ZO1/\1<r.length+1/\(r=[("-":Str)]\/r.all isN=true))
noncomputable instance:Decidable (ZA12 x0 r):=by unfold ZA12;infer_instance
noncomputable def badL:List Str->Bool
 |[]=>true
 |x0::r=>!decide (ZA12 x0 r)
theorem bad_iff:badL (x0::r)=true↔¬ZA12 x0 r:=by simp[badL]
theorem good_iff:badL (x0::r)=false↔ZA12 x0 r:=by simp[badL]
theorem Zz97{A XU:TT}{t u:TS}{D:Ends}{σ:L2.St}{H:Hp}(c1 c2:Prop)[Decidable c1][Decidable c2](hA:∀Q:Bool->Hp->Prop,Q (decide c1) H->A σ H Q)(hB:∀Q:Bool->Hp->Prop,Q (decide c2) H->XU σ H Q)(h1:c1->c2->t D σ H)(h2:¬(c1/\c2)->u D σ H):tIfS (tAnd A XU) t u D σ H:=by
 refine hA _ ?_;by_cases a:c1
 ·refine itd a (hB _ ?_);by_cases b:c2
  ·exact itd b (h1 a b)
  ·exact itdn b (h2 λz=>b z.2)
 ·exact itdn a (iteF<|h2 λz=>a z.1)
theorem ZV11{x:Str}{l:List Str}:inV (.str x) (l.map V.str)=decide (x∈l):=by
 unfold inV;rw[List.any_map,Y0I,Yy10,YT];constructor
 ·rintro⟨y,hy,e⟩;have e:eqV (.str y) (.str x)=true:=e
  have e:y=x:=by simpa[eqV] using e
  exact e▸hy
 ·intro h;exact⟨x,h,by show eqV (.str x) (.str x)=true;simp[eqV]⟩
theorem nums_iff{ws:List Str}:ws.all isN=true↔∃l,ws=l.map nT/\Told l:=by
 rw[Yy03];constructor
 ·intro h
  induction ws with
  |nil=>exact⟨[],Z,λz hz=>by cases hz⟩
  |cons w ws ih=>
   obtain⟨i,e,h1,h2⟩:=ZF9 (h w Yb);obtain⟨l,e2,ht⟩:=ih λy hy=>h y (Yc _ hy);refine⟨i::l,by rw[e,e2];rfl,λz hz=>?_⟩;rcases Ye.mp hz with q|q
   ·rw[q];exact⟨h1,h2⟩
   ·exact ht z q
 ·rintro⟨l,rfl,ht⟩ w hw;obtain⟨z,hz,rfl⟩:=Yt.mp hw;exact num_iff.mpr ⟨z,Z,ht z hz⟩
theorem Zb6{l m:List Int}(hl:Told l)(hm:Told m)(e:l.map nT=m.map nT):l=m:=by
 induction l generalizing m with
 |nil=>cases m with
  |nil=>rfl
  |cons=>cases e
 |cons x l ih=>cases m with
  |nil=>cases e
  |cons y m=>
   rw[QP,QP]at e;have e1:=(YB e).1
   have hx:=hl x Yb;have hy:=hm y Yb
   rw[ZJ9 (k:=60) J J hx.1 hx.2 hy.1 hy.2 e1,ih (λz hz=>hl z<|Yc _ hz) (λz hz=>hm z<|Yc _ hz) (YB e).2]
end My
namespace L2
open PySem PySem.Spec PyProof.Rows
section
variable{X:Cx}{e o:Expr}{es:List Expr}{ta:TE}{t:TA}{sp:Sp}{C f:Addr}{fd:FuncData}{m:Str}{pos apos:Pos}{ds:List Value}{dvs:List V}{ps:List Str}{k:Nat}{R:St->XK}
noncomputable def ZR12(C:Addr)(m:Str)(sp:Sp)(dvs:List V)(R:St->XK)(ta:TE)(t:TA):TE:=λσ H Q=>ZH13 C m sp dvs (R σ) ta t σ H Q
theorem Zu9(he:PE X o ta)(c:Cls X.K C)(hm:Meth X.K C m f)(F:FnOk X.prog X.w X.K X.mg X.base CX k f fd ps sp)(hr:Room k X.A)(hb:Binds X.K fd ps ds)(hd:Vals dvs ds)(hx:Zz35 CX X R)(ha:PA X (e::es) t)
  (hst:starEach (e::es) X.env=(false,eval e X.env)::starEach es X.env:=by rfl)(hpl:(backTo pos<|starEach es X.env).any (·.1)=false:=by rfl)
  (ht:eval (.Call (.Attribute o m apos) (e::es) [] pos) X.env=(do
   let ov <-eval o X.env
   standAt apos.atName
   let (f,first) <-holding [ov] (getMethod ov m pl)
   callWith pos f first (backTo pos<|starEach (e::es) X.env) (backToKw pos<|keywordEach [] X.env)):=by rfl):
  PE X (.Call (.Attribute o m apos) (e::es) [] pos) (ZR12 C m sp dvs R ta t):=by intro pins s σ H Q I h;refine Y3r (pl:=pl) (thn (he pins s σ H _ I h) λu s1 z=>?_) ht;obtain⟨x,H1,I1,rx,a,dx,fs,ex,ea,l,q⟩:=z;subst ex;obtain rfl:u=Value.ref a:=rx;refine Zv3 I1 ea c hm l ?_;refine Y1P (first:=[.ref a]) (h₀:=X.base) I.ok.mod.kin hm.kp (thn (ha pos pins s1 σ H1 _ I1 q) λus s2 z=>?_) hst hpl;obtain⟨vs,H2,I2,r,q2⟩:=z;exact⟨I2.kIn,Zz98 (us:=.ref a::us) (vs:=.ref a::vs) F hr hb hd hx I2 (.cons rfl r) q2⟩
noncomputable def ZF5:List Expr->Option (List Str)
 |[]=>some []
 | .Constant (.str x) _ _::r=>(ZF5 r).map (x :: ·)
 |_=>none
theorem Zd8:∀{es:List Expr}{xs:List Str},ZF5 es=some xs->PA X es (λ_ H Q=>Q (xs.map V.str) H)
 |[],xs,h=>by cases h;exact Zz3
 |e::r,xs,h=>by
  have hc:∃x j p ys,e=.Constant (.str x) j p/\ZF5 r=some ys/\xs=x::ys:=by
   unfold ZF5 at h;split at h
   ·cases ‹_::_=[]›
   ·rename_i x j p r' q;cases q;obtain⟨ys,h1,h2⟩:=Y1s.mp h;exact⟨x,j,p,ys,Z,h1,h2.symm⟩
   ·cases h
  obtain⟨x,j,p,ys,rfl,h1,rfl⟩:=hc;exact Zz0 Zr (Zd8 h1)
noncomputable def ZG13(es:List Expr):TA:=λ_ H Q=>∃xs,ZF5 es=some xs/\Q (xs.map V.str) H
theorem Zz76:PA X es (ZG13 es):=by intro pos pins s σ H Q I h;obtain⟨xs,hx,q⟩:=h;exact Zd8 hx pos pins s σ H Q I q
theorem Zb8:PE X (.List es pos) (tLst (ZG13 es)):=ZT Zz76
end
end L2
namespace My
theorem un0{α:Type}{P:List α->Prop}(h:P [])(l:List α)(e:l.length=0):P l:=by obtain rfl:=YH.mp e;exact h
end My
namespace My
open PySem L2
noncomputable def top(i:Nat):Stmt:=PySem.Challenge.pw_spanrow_k88_lines_refused.main.body.getD i (.Pass ⟨0,0,0,0⟩)
noncomputable abbrev sZ8:Stmt:=ZH2 (top 24) 0
noncomputable abbrev sZV:Stmt:=ZH2 (top 106) 0
noncomputable abbrev sZW:Stmt:=ZH2 (top 106) 1
noncomputable abbrev sZX:Stmt:=ZH2 (top 106) 2
noncomputable abbrev sZY:Stmt:=ZH2 (top 106) 10
noncomputable abbrev sZZ:Stmt:=ZH2 (top 106) 11
noncomputable abbrev sZc1:Stmt:=top 120
set_option genInjectivity false in
structure Adr where
 (aZ0 aZ1 aZ2 aZ3 aZ4 aZ5 aZ6 aZ7 aZ8 aZ9 aZa aZb aZc aZd aZe aZf aZg aZh aZi aZj aZk aZl aZm aZn aZo aZp aZq aZr aZs aZt aZu aZv aZw aZx aZy aZz aZA aZB aZC aZD aZE aZF aZG aZH aZI aZJ aZK aZL aZM aZN aZO aZP aZQ aZR aZS aZT aZU aZV aZW aZX aZY aZZ aZ01 aZ11 aZ21 aZ31 aZ41 aZ51 aZ61 aZ71 aZ81 aZ91 aZa1 aZb1 aZc1 A_Web A_Desk A_WebError A_BadSet A_Parted A_NoTree A_NoSuch A_BadRow A_BadText:Addr)
 (dZ0 dZ1 dZ2 dZ3 dZ4 dZ5 dZ6 dZ7 dZ8 dZ9 dZa dZb dZc dZd dZe dZf dZg dZh dZi dZj dZk dZl dZm dZn dZo dZp dZq dZr dZs dZt dZu dZv dZw dZx dZy dZz dZA dZB dZC dZD dZE dZF dZG dZH dZI dZJ dZK dZL dZM dZN dZO dZP dZQ dZR dZS dZT dZU dZV dZW dZX dZY dZZ dZ01 dZ11 dZ21 dZ31 dZ41 dZ51 dZ61 dZ71 dZ81 dZ91 dZa1 dZb1 dZc1:FuncData)
structure Txt (K:PySem.W.Frag) (mg:Str->Option Value) (t:Adr):Prop where
 q_refuse_not_square:DfA K mg "refuse_not_square" (top 13) t.aZ0 t.dZ0 ["table"]
 q_row_taken_off:DfA K mg "row_taken_off" (top 14) t.aZ1 t.dZ1 ["row","pivot","last"]
 q_first_with_some:DfA K mg "first_with_some" (top 15) t.aZ2 t.dZ2 ["rows"]
 q_determinant:DfA K mg "determinant" (top 16) t.aZ3 t.dZ3 ["table"]
 q_row_without:DfA K mg "row_without" (top 17) t.aZ4 t.dZ4 ["row","number"]
 q_table_without:DfA K mg "table_without" (top 18) t.aZ5 t.dZ5 ["table","number"]
 q_is_tie:DfA K mg "is_tie" (top 26) t.aZ6 t.dZ6 ["web","number"]
 q_refuse_bad_web:DfA K mg "refuse_bad_web" (top 25) t.aZ7 t.dZ7 ["places","ties"]
 fZ8:Fun K "__init__" "Web.__init__" sZ8 t.aZ8 t.dZ8
 bZ8:Binds K t.dZ8 ["self","places","ties"] []
 q_refuse_bad_row:DfA K mg "refuse_bad_row" (top 27) t.aZ9 t.dZ9 ["web","numbers"]
 q_all_ties:DfA K mg "all_ties" (top 28) t.aZa t.dZa ["web"]
 q_ties_beside:DfA K mg "ties_beside" (top 29) t.aZb t.dZb ["web","ties"]
 q_is_set:DfA K mg "is_set" (top 31) t.aZc t.dZc ["web","ties"]
 q_made_set:DfA K mg "made_set" (top 32) t.aZd t.dZd ["web","ties"]
 q_merged_marks:DfA K mg "merged_marks" (top 33) t.aZe t.dZe ["web","marks","ties"]
 q_piece_marks:DfA K mg "piece_marks" (top 34) t.aZf t.dZf ["web","ties"]
 q_pieces_of:DfA K mg "pieces_of" (top 35) t.aZg t.dZg ["web","ties"]
 q_is_joined:DfA K mg "is_joined" (top 36) t.aZh t.dZh ["web","ties"]
 q_refuse_parted:DfA K mg "refuse_parted" (top 37) t.aZi t.dZi ["web"]
 q_weighted_table:DfA K mg "weighted_table" (top 39) t.aZj t.dZj ["web","weights"]
 q_pull_table:DfA K mg "pull_table" (top 40) t.aZk t.dZk ["web"]
 q_tree_count:DfA K mg "tree_count" (top 41) t.aZl t.dZl ["web"]
 q_part_count:DfA K mg "part_count" (top 42) t.aZm t.dZm ["web","inside","outside"]
 q_is_tree:DfA K mg "is_tree" (top 44) t.aZn t.dZn ["web","ties"]
 q_refuse_no_tree:DfA K mg "refuse_no_tree" (top 45) t.aZo t.dZo ["web","tree"]
 q_grown_tree:DfA K mg "grown_tree" (top 46) t.aZp t.dZp ["web","inside","order"]
 q_least_tree:DfA K mg "least_tree" (top 47) t.aZq t.dZq ["web"]
 q_tree_at:DfA K mg "tree_at" (top 52) t.aZr t.dZr ["web","number"]
 q_lesser_ties:DfA K mg "lesser_ties" (top 53) t.aZs t.dZs ["ties","bound"]
 q_number_of:DfA K mg "number_of" (top 54) t.aZt t.dZt ["web","tree"]
 q_cheapest_web:DfA K mg "cheapest_web" (top 58) t.aZu t.dZu ["web","lengths"]
 q_cheapest_tree:DfA K mg "cheapest_tree" (top 59) t.aZv t.dZv ["web","lengths"]
 q_refuse_below_nought:DfA K mg "refuse_below_nought" (top 55) t.aZw t.dZw ["number"]
 q_whole_part:DfA K mg "whole_part" (top 68) t.aZx t.dZx ["web"]
 q_trees_between:DfA K mg "trees_between" (top 74) t.aZy t.dZy ["part","size","start","stop"]
 q_number_in:DfA K mg "number_in" (top 75) t.aZz t.dZz ["part","size","tree"]
 q_row_from:DfA K mg "row_from" (top 76) t.aZA t.dZA ["web","number","most"]
 q_row_at:DfA K mg "row_at" (top 77) t.aZB t.dZB ["web","number"]
 q_row_number:DfA K mg "row_number" (top 78) t.aZC t.dZC ["web","tree"]
 q_row_next:DfA K mg "row_next" (top 79) t.aZD t.dZD ["web","tree"]
 q_fraction:DfA K mg "fraction" (top 20) t.aZE t.dZE ["top","bottom"]
 q_share_of:DfA K mg "share_of" (top 81) t.aZF t.dZF ["web","ties"]
 q_ties_text:DfA K mg "ties_text" (top 91) t.aZG t.dZG ["ties"]
 q_fraction_text:DfA K mg "fraction_text" (top 92) t.aZH t.dZH ["pair"]
 q_answer_alone:DfA K mg "answer_alone" (top 98) t.aZI t.dZI ["web","lengths","name"]
 q_rank_text:DfA K mg "rank_text" (top 99) t.aZJ t.dZJ ["web","lengths","most"]
 q_answer_of_number:DfA K mg "answer_of_number" (top 100) t.aZK t.dZK ["web","lengths","name","number"]
 q_next_text:DfA K mg "next_text" (top 101) t.aZL t.dZL ["web","tree"]
 q_answer_of_ties:DfA K mg "answer_of_ties" (top 102) t.aZM t.dZM ["web","name","ties"]
 q_is_number:DfA K mg "is_number" (top 85) t.aZN t.dZN ["word"]
 q_read_number:DfA K mg "read_number" (top 86) t.aZO t.dZO ["word"]
 q_read_line:DfA K mg "read_line" (top 87) t.aZP t.dZP ["line","name","many"]
 q_read_web:DfA K mg "read_web" (top 88) t.aZQ t.dZQ ["text"]
 q_read_ties:DfA K mg "read_ties" (top 103) t.aZR t.dZR ["words"]
 q_numbers_text:DfA K mg "numbers_text" (top 89) t.aZS t.dZS ["numbers"]
 q_web_text:DfA K mg "web_text" (top 90) t.aZT t.dZT ["web","lengths"]
 q_answer_to:DfA K mg "answer_to" (top 104) t.aZU t.dZU ["web","lengths","line"]
 fZV:Fun K "__init__" "Desk.__init__" sZV t.aZV t.dZV
 bZV:Binds K t.dZV ["self","text"] []
 fZW:Fun K "web_now" "Desk.web_now" sZW t.aZW t.dZW
 bZW:Binds K t.dZW ["self"] []
 fZX:Fun K "lengths_now" "Desk.lengths_now" sZX t.aZX t.dZX
 bZX:Binds K t.dZX ["self"] []
 fZY:Fun K "text" "Desk.text" sZY t.aZY t.dZY
 bZY:Binds K t.dZY ["self"] []
 fZZ:Fun K "asked" "Desk.asked" sZZ t.aZZ t.dZZ
 bZZ:Binds K t.dZZ ["self","line"] []
 q_law_cell:DfA K mg "_law_cell" (top 108) t.aZ01 t.dZ01 ["script","k"]
 q_law_mixed:DfA K mg "_law_mixed" (top 109) t.aZ11 t.dZ11 ["cell","k"]
 q_law_draws:DfA K mg "_law_draws" (top 110) t.aZ21 t.dZ21 ["script","start","count","way"]
 q_law_ties:DfA K mg "_law_ties" (top 111) t.aZ31 t.dZ31 ["draws","places","hang"]
 q_law_web:DfA K mg "_law_web" (top 112) t.aZ41 t.dZ41 ["script","most","count"]
 q_law_marks:DfA K mg "_law_marks" (top 113) t.aZ51 t.dZ51 ["places","ties","some"]
 q_law_all:DfA K mg "_law_all" (top 114) t.aZ61 t.dZ61 ["places","ties"]
 q_law_lengths:DfA K mg "_law_lengths" (top 115) t.aZ71 t.dZ71 ["script","count"]
 q_law_text:DfA K mg "_law_text" (top 116) t.aZ81 t.dZ81 ["places","ties","lengths"]
 q_law_no_lines:DfA K mg "_law_no_lines" (top 117) t.aZ91 t.dZ91 []
 q_law_due_lines:DfA K mg "_law_due_lines" (top 118) t.aZa1 t.dZa1 ["many","count","far"]
 q_law_kinds:DfA K mg "_law_kinds" (top 119) t.aZb1 t.dZb1 ["desk","line"]
 q_law:DfA K mg "law" sZc1 t.aZc1 t.dZc1 ["script"]
 c_Web:mg "Web"=some (.ref t.A_Web)
 cl_Web:Cls K t.A_Web
 k_Web:Mk K t.A_Web t.aZ8
 n_Web_places:NoAttr K t.A_Web "places"
 n_Web_ties:NoAttr K t.A_Web "ties"
 c_Desk:mg "Desk"=some (.ref t.A_Desk)
 cl_Desk:Cls K t.A_Desk
 k_Desk:Mk K t.A_Desk t.aZV
 n_Desk_stages:NoAttr K t.A_Desk "stages"
 me_Desk_web_now:Meth K t.A_Desk "web_now" t.aZW
 me_Desk_lengths_now:Meth K t.A_Desk "lengths_now" t.aZX
 me_Desk_text:Meth K t.A_Desk "text" t.aZY
 me_Desk_asked:Meth K t.A_Desk "asked" t.aZZ
 c_WebError:mg "WebError"=some (.ref t.A_WebError)
 c_BadSet:mg "BadSet"=some (.ref t.A_BadSet)
 c_Parted:mg "Parted"=some (.ref t.A_Parted)
 c_NoTree:mg "NoTree"=some (.ref t.A_NoTree)
 c_NoSuch:mg "NoSuch"=some (.ref t.A_NoSuch)
 c_BadRow:mg "BadRow"=some (.ref t.A_BadRow)
 c_BadText:mg "BadText"=some (.ref t.A_BadText)
 x_BadRow:XCls K (t.A_BadRow)
 x_BadSet:XCls K (t.A_BadSet)
 x_Parted:XCls K (t.A_Parted)
 x_NoTree:XCls K (t.A_NoTree)
 x_NoSuch:XCls K (t.A_NoSuch)
 x_BadText:XCls K (t.A_BadText)
 ki_BadRow_NoSuch:PySem.W.kitOne K (.ref<|t.A_BadRow) (.ref<|t.A_NoSuch)=some false
 ki_BadRow_NoTree:PySem.W.kitOne K (.ref<|t.A_BadRow) (.ref<|t.A_NoTree)=some false
 ki_BadRow_BadSet:PySem.W.kitOne K (.ref<|t.A_BadRow) (.ref<|t.A_BadSet)=some false
 ki_BadRow_Parted:PySem.W.kitOne K (.ref<|t.A_BadRow) (.ref<|t.A_Parted)=some false
 ki_BadRow_BadText:PySem.W.kitOne K (.ref<|t.A_BadRow) (.ref<|t.A_BadText)=some false
 ki_BadRow_ValueError:PySem.W.kitOne K (.ref<|t.A_BadRow) (.type "ValueError")=some true
 em_BadRow:PySem.W.exmOne K (.ref<|t.A_BadRow) (.ref<|t.A_WebError)=some true
 ki_BadSet_NoSuch:PySem.W.kitOne K (.ref<|t.A_BadSet) (.ref<|t.A_NoSuch)=some false
 ki_BadSet_NoTree:PySem.W.kitOne K (.ref<|t.A_BadSet) (.ref<|t.A_NoTree)=some false
 ki_BadSet_Parted:PySem.W.kitOne K (.ref<|t.A_BadSet) (.ref<|t.A_Parted)=some false
 ki_BadSet_BadText:PySem.W.kitOne K (.ref<|t.A_BadSet) (.ref<|t.A_BadText)=some false
 ki_BadSet_ValueError:PySem.W.kitOne K (.ref<|t.A_BadSet) (.type "ValueError")=some true
 em_BadSet:PySem.W.exmOne K (.ref<|t.A_BadSet) (.ref<|t.A_WebError)=some true
 ki_Parted_NoSuch:PySem.W.kitOne K (.ref<|t.A_Parted) (.ref<|t.A_NoSuch)=some false
 ki_Parted_NoTree:PySem.W.kitOne K (.ref<|t.A_Parted) (.ref<|t.A_NoTree)=some false
 ki_Parted_BadSet:PySem.W.kitOne K (.ref<|t.A_Parted) (.ref<|t.A_BadSet)=some false
 ki_Parted_BadText:PySem.W.kitOne K (.ref<|t.A_Parted) (.ref<|t.A_BadText)=some false
 ki_Parted_ValueError:PySem.W.kitOne K (.ref<|t.A_Parted) (.type "ValueError")=some true
 em_Parted:PySem.W.exmOne K (.ref<|t.A_Parted) (.ref<|t.A_WebError)=some true
 ki_NoTree_NoSuch:PySem.W.kitOne K (.ref<|t.A_NoTree) (.ref<|t.A_NoSuch)=some false
 ki_NoTree_BadSet:PySem.W.kitOne K (.ref<|t.A_NoTree) (.ref<|t.A_BadSet)=some false
 ki_NoTree_Parted:PySem.W.kitOne K (.ref<|t.A_NoTree) (.ref<|t.A_Parted)=some false
 ki_NoTree_BadText:PySem.W.kitOne K (.ref<|t.A_NoTree) (.ref<|t.A_BadText)=some false
 ki_NoTree_ValueError:PySem.W.kitOne K (.ref<|t.A_NoTree) (.type "ValueError")=some true
 em_NoTree:PySem.W.exmOne K (.ref<|t.A_NoTree) (.ref<|t.A_WebError)=some true
 ki_NoSuch_NoTree:PySem.W.kitOne K (.ref<|t.A_NoSuch) (.ref<|t.A_NoTree)=some false
 ki_NoSuch_BadSet:PySem.W.kitOne K (.ref<|t.A_NoSuch) (.ref<|t.A_BadSet)=some false
 ki_NoSuch_Parted:PySem.W.kitOne K (.ref<|t.A_NoSuch) (.ref<|t.A_Parted)=some false
 ki_NoSuch_BadText:PySem.W.kitOne K (.ref<|t.A_NoSuch) (.ref<|t.A_BadText)=some false
 ki_NoSuch_ValueError:PySem.W.kitOne K (.ref<|t.A_NoSuch) (.type "ValueError")=some true
 em_NoSuch:PySem.W.exmOne K (.ref<|t.A_NoSuch) (.ref<|t.A_WebError)=some true
 ki_BadText_NoSuch:PySem.W.kitOne K (.ref<|t.A_BadText) (.ref<|t.A_NoSuch)=some false
 ki_BadText_NoTree:PySem.W.kitOne K (.ref<|t.A_BadText) (.ref<|t.A_NoTree)=some false
 ki_BadText_BadSet:PySem.W.kitOne K (.ref<|t.A_BadText) (.ref<|t.A_BadSet)=some false
 ki_BadText_Parted:PySem.W.kitOne K (.ref<|t.A_BadText) (.ref<|t.A_Parted)=some false
 ki_BadText_ValueError:PySem.W.kitOne K (.ref<|t.A_BadText) (.type "ValueError")=some true
 em_BadText:PySem.W.exmOne K (.ref<|t.A_BadText) (.ref<|t.A_WebError)=some true
 g_ALONE:∃a,mg "ALONE"=some (.ref a)/\TupC K a [L2.V.str "count",L2.V.str "cheapest"]
 g_OF_A_NUMBER:∃a,mg "OF_A_NUMBER"=some (.ref a)/\TupC K a [L2.V.str "tree",L2.V.str "row",L2.V.str "rank"]
 g_OF_TIES:∃a,mg "OF_TIES"=some (.ref a)/\TupC K a [L2.V.str "number",L2.V.str "place",L2.V.str "next",L2.V.str "share"]
 g_MOST_PLACES:∃tk,mg "MOST_PLACES"=some (.int 14 tk)
 g_MOST_TIES:∃tk,mg "MOST_TIES"=some (.int 30 tk)
 g_FIGURES:∃tk,mg "FIGURES"=some (.str "0123456789" tk)
 g_MOST_FIGURES:∃tk,mg "MOST_FIGURES"=some (.int 60 tk)
 n_ValueError:mg "ValueError"=none
 n_any:mg "any"=none
 n_enumerate:mg "enumerate"=none
 n_int:mg "int"=none
 n_isinstance:mg "isinstance"=none
 n_len:mg "len"=none
 n_list:mg "list"=none
 n_max:mg "max"=none
 n_min:mg "min"=none
 n_range:mg "range"=none
 n_reversed:mg "reversed"=none
 n_set:mg "set"=none
 n_sorted:mg "sorted"=none
 n_str:mg "str"=none
 n_sum:mg "sum"=none
 n_tuple:mg "tuple"=none
 n_zip:mg "zip"=none
end My
namespace My
open PySem L2 PyProof.Rows
set_option maxHeartbeats 4000000
section
variable{P:Program}{w:World}{K:PySem.W.Frag}{mg:Str->Option Value}{base:Heap}{t:Adr}
noncomputable def spZ0(K:PySem.W.Frag):Sp:=λvs H Q _=>∃a kd xs L,vs=[.ref a]/\SqK kd K H a xs/\Bears (RowV K H) xs L/\
 ((∀l∈L,l.length=L.length)->Q .non H)/\(¬(∀l∈L,l.length=L.length)->False)
theorem scZ0:FnScope ["table","row"] ["table"] (Zz9 (top 13)):=Zf1 S
theorem okZ0(T:Txt K mg t):OkQ P w base CX0 T.q_refuse_not_square 1 (spZ0 K):=by
 refine T.q_refuse_not_square.ok ["table","row"] S (λvs H Q E h=>?_) (λcdv A outer s H vs Q E hr h=>?_)
 ·obtain⟨a,kd,xs,L,rfl,_⟩:=h;rfl
 ·obtain⟨a,kd,xs,L,rfl,hS,hB,q,qe⟩:=h;refine⟨_,(Zz5 (ZX YM Z (Zh2 K<|pv 0) (Zf (i:=1) scZ0.nd Z<|Or.inl Z)
   (Zz5 (Zz61 (Zi Zz86 (Zc (Zh K) XS T.n_len Boot.«len»<|Zz0 (pv 1) Zz3) (Zc (Zh K) XS T.n_len Boot.«len»<|Zz0 (pv 0) Zz3)<|Zq _)
   (Zz5 Zf2)
   Zm)))),?_⟩
  have hxl:=hB.1;refine⟨_,Z,a,Z,Zy3 (K:=K) (k:=kd) (a:=a) (xs:=xs) (λi σ H2=>∃v1,σ=[some (.ref a),v1]/\H2=H/\∀l∈L.take i,l.length=L.length) ⟨none,Z,Z,λl h=>(by cases h)⟩ (λi σ H2 _ zz=>by obtain⟨_,_,e,_⟩:=zz;exact e▸hS) ?_ ?_⟩
  ·rintro i v σ H2 hi ⟨v1,rfl,rfl,hall⟩;obtain⟨l,hl,r,k,rfl,hr⟩:=hB.at hi;refine nm ?_;refine⟨_,Z,r,_,Z,hr.or,_,Z,a,xs,Z,hS.or,Z,_,Z,?_⟩;rw[Zz8,Zz];refine itn2 (λe=>?_) (λe=>?_)
   ·refine⟨_,Z,Z,λm hm=>?_⟩;rw[YD,hl]at hm;rcases Yj.mp hm with h|h
    ·exact hall m h
    ·have hm':m=l:=by simpa using h
     rw[hm'];lia
   ·exact qe λh=>e (by rw[h l (Yy8 hl),hxl])
  ·rintro σ H2 ⟨v1,rfl,rfl,hall⟩;rw[hxl,YC]at hall;exact q hall
noncomputable def spZ1(K:PySem.W.Frag):Sp:=λvs H Q _=>∃r p x y last l q,vs=[.ref r,.ref p,.int last]/\SqL K H r (IL<|x::l)/\SqL K H p (IL<|y::q)/\l.length=q.length/\l.length<=1000/\last≠0/\last.natAbs<2^9000/\
 (∀z∈x::l,z.natAbs<2^9000)/\(∀z∈y::q,z.natAbs<2^9000)/\∀c H',Same H H'->H c=none->H' c=some (.lst<|IL<|tkn y q last<|x::l)->Q (.ref c) H'
theorem okZ1(T:Txt K mg t):OkQ P w base CX0 T.q_row_taken_off 1 (spZ1 K):=by
 refine T.q_row_taken_off.ok ["row","pivot","last"] S (λvs H Q E h=>?_) (λcdv A outer s H vs Q E hr h=>?_)
 ·obtain⟨r,p,x,y,last,l,q,rfl,_⟩:=h;rfl
 ·obtain⟨r,p,x,y,last,l,q',rfl,hR,hP,hlq,hl,l0,l1,hx,hy,q⟩:=h;refine⟨_,(Zz5<|Zk<|Zs5 Z (sc0:=Zz9<|top 14) (N0:=["row","pivot","last"]) (N':=["own","other","pivot","row","last"]) (o:=2) (fr:=[1,0,2]) ⟨Z,S,S,S,Z,S⟩ (Zt9 K Z T.n_zip<|Zz0 (ZW (Zz11 K) (pv 0) (Zn1 Zz7) Zo1)<|Zz0 (ZW (Zz11 K) (pv 1) (Zn1 Zz7) Zo1) Zz3) (ZA4<|Zw1 J<|Zw1 J ZB4) (λ_ _ _ _=>(Zv1 (n:=2) K Z<|Zv (Zf (i:=0) (show List.Nodup (["own","other","pivot","row","last"]:List Str) by decide +kernel) Z<|Or.inl Z)<|Zv (Zf (i:=1) (show List.Nodup (["own","other","pivot","row","last"]:List Str) by decide +kernel) Z<|Or.inl Z) Zu1)) (λ_ _ _ _=>ZP) λ_ _ _ _=>(Zn ZB9 (Zn Zz22 (Zn Zz96 (ZC (Zb K) (pv 2) Zz7 λ_ _=>rfl)<|pv 0)<|Zn Zz96 (ZC (Zb K) (pv 3) Zz7 λ_ _=>rfl)<|pv 1)<|pv 4)),?_⟩;refine⟨_,Z,_,Z,r,_,Z,hR,λp1 hp1=>?_⟩;rw[ZZ6];have s1:=Zz4 (o:=.lst<|IL l) hp1
  refine⟨_,Z,_,Z,p,_,Z,s1.seq hP,λp2 hp2=>?_⟩;rw[ZZ6];have s2:=Zz4 (o:=.lst<|IL q') hp2
  have s12:=s1.trans s2;have h1:=s2 _ _ (Zz1 (H:=H) (a:=p1) (o:=.lst<|IL l))
  have h2:(upd (upd H p1<|.lst<|IL l) p2<|.lst<|IL q') p2=some (.lst<|IL q'):=Zz1;generalize upd (upd H p1<|.lst<|IL l) p2 (.lst<|IL q')=H2 at *;refine⟨p1,p2,Z,⟨_,_,SqL.of h1,SqL.of h2⟩,ZI11 (K:=K) (a:=p1) (b:=p2) (xs:=IL l) (ys:=IL q') (λi zs H3=>Same H2 H3/\i<=l.length/\zs=IL ((tkn y q' last<|x::l).take i)) ⟨Same.refl _,Yr _,Z⟩ (by rwa[Zz8,Zz8]) (Zp<|by rw[Zz8];lia)
   (λi zs H3 hi zz=>by obtain⟨e,hi2,ez⟩:=zz;exact⟨SqL.of<|e _ _ h1,SqL.of<|e _ _ h2,by rw[ez,Zz8,Yp];lia⟩) ?_ ?_⟩
  ·rintro i u v zs H3 pt hpt hu hv ⟨s3,hil,rfl⟩ XW hSS;obtain⟨own,rfl,ho⟩:=Zy1 hu;obtain⟨oth,rfl,ht⟩:=Zy1 hv;have hil':=(Yy4.mp ho).1
   have s4:=Zz4 (o:=.tup [.int own,.int oth]) hpt;refine⟨pt,_,Z,SqT.of Zz1,Z,_,_,Z,_,_,Z,Z,?_⟩;have s34:=s12.trans (s3.trans s4)
   have a1:=hy y Yb;have a2:=hx own (Yc _<|Yy8 ho)
   have a3:=hx x Yb;have a4:=hy oth (Yc _<|Yy8 ht)
   refine⟨_,Z,p,_,0,.int y,Z,Z,s34.seq hP,Zw (n:=0) Z Z,_,Z,_,_,Z,Z,⟨a1,a2⟩,_,Z,r,_,0,.int x,Z,Z,s34.seq hR,Zw (n:=0) Z Z,_,Z,_,_,Z,Z,⟨a3,a4⟩,_,_,Z,Z,_,Z,_,_,Z,Z,⟨l0,l1⟩,?_⟩;refine hSS _ _ ⟨s3.trans s4,hil',?_⟩;have e:(tkn y q' last<|x::l)[i]?=some ((y*own-x*oth).fdiv last):=by show(List.zipWith _ l q')[i]?=_;rw[Y0f,ho,ht];rfl
   rw[YD,e];exact(Zr1 _ _).symm
  ·rintro zs H3 ⟨s3,_,rfl⟩ c hc;rw[Zz8,YL (by rw[Zz18 (by rw[Yq,hlq])];lia)];exact q c _ (s12.trans<|s3.trans<|Zz4 hc) ((s12.trans s3).free hc) Zz1
noncomputable def spZ2(K:PySem.W.Frag):Sp:=λvs H Q _=>∃a ys R,vs=[.ref a]/\SqL K H a ys/\Bears (Zq5 H) ys R/\(∀l∈R,0<l.length)/\
 (∀H':Hp,Same H H'->(∀i,i<R.length->fnL R i 0=0)->Q .non H')/\(∀t H',Same H H'->t<R.length->fnL R t 0≠0->Q (.int t) H')
theorem scZ2:FnScope ["rows","at","row"] ["rows"] (Zz9 (top 15)):=Zf1 S
theorem okZ2(T:Txt K mg t):OkQ P w base CX0 T.q_first_with_some 1 (spZ2 K):=by
 refine T.q_first_with_some.ok ["rows","at","row"] S (λvs H Q E h=>?_) (λcdv A outer s H vs Q E hr h=>?_)
 ·obtain⟨a,ys,R,rfl,_⟩:=h;rfl
 ·obtain⟨a,ys,R,rfl,hS,hB,hp,q0,q1⟩:=h;refine⟨_,(Zz2 (ZX YM Z (ZR2 K Z T.n_enumerate<|Zz0 (pv 0) Zz3) (Zv1 (n:=2) K Z<|Zv (Zf (i:=1) scZ2.nd Z<|Or.inl Z)<|Zv (Zf (i:=2) scZ2.nd Z<|Or.inl Z) Zu1)
   (Zz5 (Zz61 (Zi Zz86 (ZC (Zb K) (pv 2) Zz7 λ_ _=>rfl) Zz7<|Zq _)
   (Zz5<|Zk<|pv 1)
   Zm)))
   (Zz5<|Zk Zz16)),?_⟩
  have hyl:=hB.1;refine⟨_,Z,a,Z,⟨_,hS⟩,ZJ6 (K:=K) (a:=a) (xs:=ys) (λi σ H2=>∃v1 v2,σ=[some (.ref a),v1,v2]/\Same H H2/\∀j,j<i->fnL R j 0=0) ⟨none,none,Z,Same.refl _,λj h=>absurd h<|Yy00 _⟩ (λi σ H2 _ zz=>by obtain⟨_,_,_,e,_⟩:=zz;exact e.seq hS) ?_ ?_⟩
  ·rintro i v σ H2 pt hpt hi ⟨v1,v2,rfl,s2,hz⟩;obtain⟨l,hl,r,rfl,hr⟩:=hB.at hi;have hlp:=hp l (Yy8 hl)
   obtain⟨x,l',rfl⟩:∃x l',l=x::l':=by
    cases l with
    |nil=>exact absurd hlp (Y0p 0)
    |cons x l'=>exact⟨x,l',Z⟩
   have e0:fnL R i 0=x:=Zy2 hl rfl;have s3:=s2.trans (Zz4 (o:=.tup [.int i,.ref r]) hpt)
   refine⟨pt,_,Z,SqT.of Zz1,Z,_,_,Z,_,_,Z,Z,?_⟩;generalize upd H2 pt (.tup [.int i,.ref r])=H3 at *;refine⟨_,Z,r,_,0,.int x,Z,Z,SqL.of<|s3 _ _ hr,Zw (n:=0) Z Z,Z,_,Z,?_⟩;rw[Zz];refine itn2 (λe=>?_) (λe=>?_)
   ·refine⟨_,_,Z,s3,λj hj=>?_⟩;by_cases c:j=i
    ·rw[c,e0,e]
    ·exact hz j O
   ·exact⟨_,Z,q1 i H3 s3 (by have:=(Yy4.mp hl).1;exact this)<|by rwa[e0]⟩
  ·rintro σ H2 ⟨v1,v2,rfl,s2,hz⟩;exact q0 H2 s2 λi hi=>hz i O
noncomputable def spZ3(K:PySem.W.Frag):Sp:=λvs H Q _=>∃a kd xs L,vs=[.ref a]/\SqK kd K H a xs/\Bears (RowV K H) xs L/\L.length<=16/\(∀i j,i<L.length->j<L.length->(fnL L i j).natAbs<=2^400)/\
 ((∀l∈L,l.length=L.length)->∀H':Hp,Same H H'->Q (.int<|det L.length<|fnL L) H')/\(¬(∀l∈L,l.length=L.length)->∀H':Hp,Same H H'->False)
theorem ZB13{s rest:TS}{D:Ends}{σ:L2.St}{H:Hp}(P:L2.St->Hp->Prop)(h1:∀σ' H',P σ' H'->rest D σ' H')(h2:∀K:L2.St->Hp->Prop,(∀σ' H',P σ' H'->K σ' H')->s {D with nx:=K} σ H):tSeq s rest D σ H:=h2 _ h1
theorem scZ3:FnScope ["table","rows","sign","last","at","pivot"] ["table"] (Zz9 (top 16)):=Zf1 S
theorem okZ3(T:Txt K mg t):OkQ P w base CX0 T.q_determinant 2 (spZ3 K):=by
 refine T.q_determinant.ok ["table","rows","sign","last","at","pivot"] S (λvs H Q E h=>?_) (λcdv A outer s H vs Q E hr h=>?_)
 ·obtain⟨a,kd,xs,L,rfl,_⟩:=h;rfl
 ·obtain⟨a,kd,xs,L,rfl,hS,hB,hL16,hA0,q,qe⟩:=h;refine⟨_,(Zz2 (ZQ<|Zz6 (okZ0 T) hr T.q_refuse_not_square ZB<|Zz0 (pv 0) Zz3)
   (Zz2 (Zo7 (i:=1) Z scZ3.nd Z Z (sc0:=Zz9<|top 16) (N0:=["table","rows","sign","last","at","pivot"]) (N':=["row"]) (o:=1) (fr:=[]) ⟨Z,S,S,S,Z,S⟩ (Zh2 K<|pv 0) (ZE J) (λ_ _ _ _=>(Zf (i:=0) (show List.Nodup (["row"]:List Str) by decide +kernel) Z<|Or.inl Z)) (λ_ _ _ _=>ZP) λ_ _ _ _=>(Zj (Zz51 K) XS T.n_list Boot.«list»<|Zz0 (pv 0) Zz3))
   (Zz2 (Zg (i:=2) scZ3.nd Z (Or.inl Z) Zz7)
   (Zz2 (Zg (i:=3) scZ3.nd Z (Or.inr Z) Zz7)
   (Zz2 (Zl9 YM (Zi Zf8 (Zc (Zh K) XS T.n_len Boot.«len»<|Zz0 (pv 1) Zz3) Zz7<|Zq _)
   (Zz2 (Zg (i:=4) scZ3.nd Z (Or.inl Z)<|Zz6 (okZ2 T) hr T.q_first_with_some ZB<|Zz0 (pv 1) Zz3)
   (Zz2 (Zz61 (Zi Zp11 (pv 4) Zz16<|Zq _)
   (Zz5<|Zk Zz7)
   Zm)
   (Zz2 (Zz61 (Zi Zz32 (Zn ZM (pv 4) Zz7) Zz7<|Zq _)
   (Zz5<|Zg (i:=2) scZ3.nd Z (Or.inl Z)<|ZL13 ZL10<|pv 2)
   Zm)
   (Zz2 (Zg (i:=5) scZ3.nd Z (Or.inr Z)<|Zk1 K YY PySem.F.slot_list_pop PySem.F.type_list_pop ZK9 (pv 1)<|Zz0 (pv 4) Zz3)
   (Zz2 (Zo7 (i:=1) Z scZ3.nd Z Z (sc0:=Zz9<|top 16) (N0:=["table","rows","sign","last","at","pivot"]) (N':=["row","pivot","last"]) (o:=1) (fr:=[5,3]) ⟨Z,S,S,S,Z,S⟩ (ZS K<|pv 1) (ZE J) (λ_ _ _ _=>(Zf (i:=0) (show List.Nodup (["row","pivot","last"]:List Str) by decide +kernel) Z<|Or.inl Z)) (λ_ _ _ _=>ZP) λ_ _ _ _=>(Zz6 (okZ1 T) hr T.q_row_taken_off ZB<|Zz0 (pv 0)<|Zz0 (pv 1)<|Zz0 (pv 2) Zz3))
   (Zz5<|Zg (i:=3) scZ3.nd Z (Or.inr Z)<|ZC (Zb K) (pv 5) Zz7 λ_ _=>rfl)))))))
   (Zz5<|Zk<|Zn Zz96 (pv 2)<|pv 3)))))),?_⟩
  have hxl:=hB.1;refine⟨_,Z,a,kd,xs,L,Z,hS,hB,λhsq=>?_,λh=>qe h H<|Same.refl H⟩;have q:=q hsq
  obtain⟨n,hn⟩:∃n,n=L.length:=⟨_,Z⟩;rw[<-hn]at q hsq hA0 hL16;refine⟨_,Z,a,Z,ZK11 (K:=K) (k:=kd) (a:=a) (xs:=xs) (λi zs H2=>Same H H2/\i<=xs.length/\Bears (Zq5 H2) zs (L.take i)) ⟨Same.refl _,Yr _,⟨Z,λi l e=>by simp at e⟩⟩ (Zp O) (λi zs H2 hi zz=>by obtain⟨e,hi2,ez⟩:=zz;exact⟨hS.same e,by rw[ez.1,Yp];lia⟩) ?_ ?_⟩
  ·rintro i v zs H2 hi ⟨s2,hil,hZ⟩ XW hSS;obtain⟨l,hl,r,k,rfl,hr⟩:=hB.at hi;have hil':=(Yy4.mp hi).1
   refine nm ?_;refine⟨_,Z,r,_,Z,(hr.same s2).or,λc hc=>hSS _ _ ⟨s2.trans<|Zz4 hc,hil',?_⟩⟩;rw[YD,hl];refine(hZ.imp λ_ _ zz=>by obtain⟨r',e,h⟩:=zz;exact⟨r',e,Zz4 hc _ _ h⟩).snoc ⟨c,Z,Zz1⟩
  rintro zs H2 ⟨s2,_,hZ⟩ rA hrA;rw[hxl,YC]at hZ;have s3:=s2.trans (Zz4 (o:=.lst zs) hrA)
  refine⟨λm σ H4=>∃A k rA ys R sgn last v4 v5,σ=[some (.ref a),some<|.ref rA,some<|.int sgn,some<|.int last,v4,v5]/\Same H H4/\H rA=none/\H4 rA=some (.lst ys)/\Bears (LiV rA H4) ys R/\R.length=m/\(∀l∈R,l.length=m)/\k+m=n/\Bar A k m (fnL R) last/\det n (fnL L)=sgn*det n A/\(∀i j,i<n->j<n->(A i j).natAbs<=2^400)/\(m=0->last=det n A)/\(sgn=1\/sgn=-1)/\last.natAbs<2^9000,⟨n,fnL L,0,rA,zs,L,1,1,none,none,Z,s3,s2.free hrA,Zz1,?_,hn.symm,hsq,O,ZY7 _ _,XR,hA0,λe=>by rw[e];rfl,.inl Z,Nat.one_lt_two_pow J⟩,?_⟩
  ·exact hZ.imp λv l zz=>by obtain⟨r,e,h⟩:=zz;exact⟨r,e,Zz4 hrA _ _ h,Ze h hrA⟩
  rintro m σ H4 ⟨A,k,rA,ys,R,sgn,last,v4,v5,rfl,s4,hr0,hr4,hR,hRm,hRl,hkm,hBar,hdet,hAb,hfin,hsg,hlb⟩;have hyl:=hR.1
  refine⟨_,Z,rA,ys,Z,.inl<|SqL.of hr4,_,_,Z,Z,_,Z,?_⟩;refine itd2 (λhpos=>?_) (λhpos=>?_)
  ·obtain⟨M,rfl⟩:∃M,m=M+1:=⟨m-1,O⟩;refine⟨_,λσ' H' h=>⟨M,Y0d M,h⟩,?_⟩;have hsm:∀l∈R,∀z∈l,z.natAbs<2^9000:=λl hl z hz=>by
    obtain⟨i,hi⟩:=Y0v hl;obtain⟨j,hj⟩:=Y0v hz;have h1:=(Yy4.mp hi).1
    have h2:=(Yy4.mp hj).1;have h3:=hRl l hl
    have:=ZZ7 hBar hkm hL16 hAb (i:=i) (j:=j) O O
    rwa[Zy2 hi hj]at this
   refine⟨_,Z,rA,ys,R,Z,SqL.of hr4,hR.imp λ_ _ h=>h.list,λl hl=>by rw[hRl l hl];lia,λH5 s5 h0=>?_,λt H5 s5 ht hne=>?_⟩
   ·refine⟨_,Z,Z,_,Z,?_⟩;refine itd (c:=V.non=V.non) Z ?_;have z:det n A=0:=by
     have:=Zz10 hBar λi hi=>h0 i O
     rwa[show k+M+1=n by lia]at this
    rw[hdet,z,Y0m]at q;exact q H5 (s4.trans s5)
   refine⟨_,Z,Z,_,Z,?_⟩;refine itdn (c:=V.int (t:Int)=V.non) (λz=>nomatch z) ?_;refine nm ?_;dsimp only;refine ZB13 (λσ H6=>∃sgn':Int,H6=H5/\σ=[some (.ref a),some<|.ref rA,some<|.int sgn',some<|.int last,some<|.int t,v5]/\sgn'=sgn*sg t) ?_ ?_
   ·rintro σ H6 ⟨sgn',rfl,rfl,hsgn⟩;have hr6:=s5 _ _ hr4
    have hR6:=hR.imp λ_ _ h=>h.same s5;obtain⟨l,hl⟩:∃l,R[t]?=some l:=⟨_,Yy0 ht⟩;have hll:=hRl l (Yy8 hl)
    obtain⟨y,p',rfl⟩:∃y p',l=y::p':=by
     cases l with
     |nil=>cases hll
     |cons y p'=>exact⟨y,p',Z⟩
    have hpl:p'.length=M:=by rw[Yq]at hll;lia
    obtain⟨v,hv,pA,rfl,hpA,hpn⟩:=hR6.2 t _ hl;have hy0:y≠0:=by rwa[Zy2 hl Z]at hne
    refine⟨_,Z,.inl ⟨Z,_,SqL.of hr6⟩,_,Z,rA,ys,(t:Int),t,.ref pA,Z,Z,hr6,O,O,by rw[Zz113 O O,YA],hv,?_⟩;have hpA7:(upd H6 rA<|.lst<|ys.eraseIdx t) pA=some (.lst<|IL<|y::p'):=by rwa[Zd hpn]
    have s7:Same H (upd H6 rA<|.lst<|ys.eraseIdx t):=Zu hr0 (s4.trans s5);have hR7:Bears (LiV rA<|upd H6 rA<|.lst<|ys.eraseIdx t) (ys.eraseIdx t) (R.eraseIdx t):=(hR6.erase t).imp λ_ _ h=>h.mut
    have hr7:(upd H6 rA<|.lst<|ys.eraseIdx t) rA=some (.lst<|ys.eraseIdx t):=Zz1;generalize upd H6 rA (.lst<|ys.eraseIdx t)=H7 at *;have eRl:(R.eraseIdx t).length=M:=by rw[Y2j,if_pos ht];lia
    have hRl7:∀l∈R.eraseIdx t,l.length=M+1:=λl h=>hRl l (Y3c h);have hy7:=hR7.1
    refine⟨_,Z,rA,Z,⟨_,SqL.of hr7⟩,Zx1 (K:=K) (a:=rA) (xs:=ys.eraseIdx t) (λi zs H8=>Same H7 H8/\i<=(ys.eraseIdx t).length/\Bears (Zq5 H8) zs (((R.eraseIdx t).take i).map (tkn y p' last))) ⟨Same.refl _,Yr _,⟨Z,λi l e=>by simp at e⟩⟩ (Zp O) (λi zs H8 hi zz=>by obtain⟨e,hi2,ez⟩:=zz;exact⟨SqL.of<|e _ _ hr7,by rw[ez.1,Yy9,Yp];lia⟩) ?_ ?_⟩
    ·rintro i v zs H8 hi ⟨s8,hil,hZ8⟩ XW hSS;obtain⟨l,hli,r,rfl,hr,_⟩:=hR7.at hi;have hil':=(Yy4.mp hi).1
     have hl2:=hRl7 l (Yy8 hli);obtain⟨x,l',rfl⟩:∃x l',l=x::l':=by
      cases l with
      |nil=>cases hl2
      |cons x l'=>exact⟨x,l',Z⟩
     have hl':l'.length=M:=by rw[Yq]at hl2;lia
     refine nm ?_;refine⟨_,Z,_,Z,_,Z,r,pA,x,y,last,l',p',Z,SqL.of<|s8 _ _ hr,SqL.of<|s8 _ _ hpA7,O,O,hBar.1,hlb,hsm _<|Y3c<|Yy8 hli,hsm _<|Yy8 hl,λc H9 s9 hc0 hc=>hSS _ _ ⟨s8.trans s9,hil',?_⟩⟩;rw[YD,hli,Yz];exact(hZ8.imp λ_ _ zz=>by obtain⟨r',e,h⟩:=zz;exact⟨r',e,s9 _ _ h⟩).snoc ⟨c,Z,hc⟩
    rintro zs H8 ⟨s8,_,hZ8⟩ cA hcA;rw[hy7,YC]at hZ8;have s9:=Zz4 (o:=.lst zs) hcA
    refine⟨_,Z,pA,_,0,.int y,Z,Z,SqL.of<|s9 _ _<|s8 _ _ hpA7,Zw (n:=0) Z Z,?_⟩;have hb1:Bar (λi=>A<|rotN k t i) k (M+1) (fnL<|(y::p')::R.eraseIdx t) last:=by rw[Zz411 hl];exact Zr12 hBar O
    have hb2:Bar (λi=>A<|rotN k t i) (k+1) M (fnL<|(R.eraseIdx t).map (tkn y p' last)) y:=Zy10 hb1 hy0 λi j hi hj=>ZQ10 hpl eRl hRl7 hi hj;have hdr:=ZP6 (n:=n) (k:=k) (t:=t) (A:=A) O
    refine⟨λi=>A<|rotN k t i,k+1,cA,zs,(R.eraseIdx t).map (tkn y p' last),sgn',y,_,_,Z,s7.trans<|s8.trans s9,(s7.trans s8).free hcA,Zz1,?_,by rw[Yy9];exact eRl,λl h=>?_,O,hb2,?_,λi j hi hj=>hAb _ _ ?_ hj,λe0=>?_,?_,hsm _ (Yy8 hl) y Yb⟩
    ·exact hZ8.imp λv l zz=>by obtain⟨r,e,h⟩:=zz;exact⟨r,e,s9 _ _ h,Ze h hcA⟩
    ·obtain⟨l0,h0,rfl⟩:=Yt.mp h;rw[Zz18 (by rw[hRl7 l0 h0,hpl]),hpl]
    ·rw[hdr,hdet,hsgn,Y0g,<-Y0g (sg t),Zc14,Y0t]
    ·unfold rotN;split
     ·grind
     ·split
      ·lia
      ·split<;>lia
    ·subst e0
     have:=Zt12 hb1
     rwa[show k+1=n by lia]at this
    ·rw[hsgn];have hst:sg t=1\/sg t=-1:=by
      unfold sg;split
      ·exact .inl rfl
      ·exact .inr rfl
     rcases hsg with e|e<;>rcases hst with f|f<;>rw[e,f]
     ·exact .inl rfl
     ·exact .inr rfl
     ·exact .inr rfl
     ·exact .inl rfl
   ·intro Kn hK;refine⟨_,Z,_,_,Z,Z,(by show(0:Int)<2;decide),Z,_,Z,?_⟩;rw[Zz];refine itd2 (λh1=>?_) (λh1=>?_)
    ·refine⟨_,Z,_,Z,hK _ _ ⟨-sgn,Z,Z,?_⟩⟩;have e:sg t=-1:=by unfold sg;rw[if_neg O]
     rw[e];lia
    ·refine hK _ _ ⟨sgn,Z,Z,?_⟩;have e:sg t=1:=by unfold sg;rw[if_pos O]
     rw[e];grind
  ·have hm0:m=0:=O;refine⟨_,Z,_,Z,_,_,Z,Z,⟨?_,hlb⟩,?_⟩
   ·rcases hsg with e|e<;>rw[e]<;>exact Nat.one_lt_two_pow J
   ·rw[hfin hm0]at *;rw[hdet]at q;exact q H4 s4
noncomputable def spZ4(K:PySem.W.Frag):Sp:=λvs H Q _=>∃(a:Addr)(l:List Int)(i:Nat),vs=[.ref a,.int i]/\SqL K H a (IL l)/\l.length<=1000/\∀r H',Same H H'->H r=none->H' r=some (.lst<|IL<|cutz l i)->Q (.ref r) H'
theorem Zz210(l:List Int)(z:Int):cutz (IL l) z=IL (cutz l z):=by
 unfold cutz;show(l.map V.int).take _++(l.map V.int).drop _=(l.take _++l.drop _).map V.int
 rw[Yz,List.map_take,List.map_drop]
theorem okZ4(T:Txt K mg t):OkQ P w base CX0 T.q_row_without 1 (spZ4 K):=by
 refine T.q_row_without.ok ["row","number"] S (λvs H Q E h=>?_) (λcdv A outer s H vs Q E hr h=>?_)
 ·obtain⟨a,l,i,rfl,_⟩:=h;rfl
 ·obtain⟨a,l,i,rfl,hA,hl,q⟩:=h;refine⟨_,(Zz5<|Zk<|Zn Zt7 (Zj (Zz51 K) XS T.n_list Boot.«list»<|Zz0 (ZW (Zz11 K) (pv 0) Zo1<|Zn1<|pv 1) Zz3)<|Zj (Zz51 K) XS T.n_list Boot.«list»<|Zz0 (ZW (Zz11 K) (pv 0) (Zn1<|Zn Zc1 (pv 1) Zz7) Zo1) Zz3),?_⟩;refine⟨_,Z,_,Z,(i:Int),Z,a,_,Z,hA,λp1 hp1=>?_⟩;have u1:=Zz4 (o:=.lst<|cutV (IL l) none<|some (i:Int)) hp1
  refine⟨p1,_,Z,.inl<|SqL.of Zz1,λp2 hp2=>?_⟩;have u2:=Zz4 (o:=.lst<|cutV (IL l) none<|some (i:Int)) hp2
  refine⟨_,Z,_,Z,_,_,Z,Z,_,Z,a,_,Z,(u1.trans u2).seq hA,λp3 hp3=>?_⟩;have u3:=Zz4 (o:=.lst<|cutV (IL l) (some<|(i:Int)+1) none) hp3
  refine⟨p3,_,Z,.inl<|SqL.of Zz1,λp4 hp4=>?_⟩;have u4:=Zz4 (o:=.lst<|cutV (IL l) (some<|(i:Int)+1) none) hp4
  have c1:=ZV1 (IL l) none (some (i:Int));have c2:=ZV1 (IL l) (some<|(i:Int)+1) none
  rw[Zz8]at c1 c2;refine⟨p2,p4,_,_,Z,Z,(u3.trans u4) _ _ Zz1,Zz1,ZK1 O,λp5 hp5=>?_⟩;have u14:=u1.trans (u2.trans<|u3.trans u4)
  refine q p5 _ (u14.trans<|Zz4 hp5) (u14.free hp5) ?_;rw[Zz1,ZJ14 O,Zz210]
noncomputable def spZ5(K:PySem.W.Frag):Sp:=λvs H Q _=>∃(a:Addr)(ys:List V)(L:List (List Int))(i:Nat),vs=[.ref a,.int i]/\SqL K H a ys/\Bears (Zq5 H) ys L/\L.length<=1000/\(∀l∈L,l.length<=1000)/\i<L.length/\
 ∀r zs H',Same H H'->H' r=some (.lst zs)->Bears (Zq5 H') zs ((cutz L i).map λl=>cutz l (i:Int))->Q (.ref r) H'
theorem ZT4{α:Type}{l:List α}{i j:Nat}{x:α}(hx:l[j]?=some x):cutz (l.take (j+1)) (i:Int)=cutz (l.take j) (i:Int)++(if j=i then [] else [x]):=by
 have hj:=(Yy4.mp hx).1;have e:l.take (j+1)=l.take j++[x]:=by rw[YD,hx];rfl
 have hl:(l.take j).length=j:=by rw[Yp];grind
 have short:∀m:List α,m.length<=i->cutz m (i:Int)=m:=λm hm=>by unfold cutz;rw[YA,YL hm,Y0H O,Yy04]
 rw[e];by_cases c:j=i
 ·subst c;rw[if_pos Z,Yy04,short (l.take j) O];unfold cutz;rw[YA,Y2C O,Y0H (by rw[Yy3,hl];exact Yy6 _),Yy04,YL O]
 ·rw[if_neg c];by_cases d:j<i
  ·rw[short (l.take j++[x]) (by rwa[Yy3,hl]),short (l.take j) O]
  ·unfold cutz;rw[YA,Y2C XR,List.drop_append_of_le_length O,Y0A]
theorem okZ5(T:Txt K mg t):OkQ P w base CX0 T.q_table_without 2 (spZ5 K):=by
 refine T.q_table_without.ok ["table","number"] S (λvs H Q E h=>?_) (λcdv A outer s H vs Q E hr h=>?_)
 ·obtain⟨a,ys,L,i,rfl,_⟩:=h;rfl
 ·obtain⟨a,ys,L,i,rfl,hA,hB,hL,hLl,hi,q⟩:=h;refine⟨_,(Zz5<|Zk<|Zs5 Z (sc0:=Zz9<|top 18) (N0:=["table","number"]) (N':=["at","row","number"]) (o:=2) (fr:=[1]) ⟨Z,S,S,S,Z,S⟩ (ZR2 K Z T.n_enumerate<|Zz0 (pv 0) Zz3) (ZA4<|Zw1 J<|Zw1 J ZB4) (λ_ _ _ _=>(Zv1 (n:=2) K Z<|Zv (Zf (i:=0) (show List.Nodup (["at","row","number"]:List Str) by decide +kernel) Z<|Or.inl Z)<|Zv (Zf (i:=1) (show List.Nodup (["at","row","number"]:List Str) by decide +kernel) Z<|Or.inl Z) Zu1)) (λ_ _ _ _=>(ZX5<|Zi Zz86 (pv 0) (pv 2)<|Zq _)) λ_ _ _ _=>(Zz6 (okZ4 T) hr T.q_row_without ZB<|Zz0 (pv 1)<|Zz0 (pv 2) Zz3)),?_⟩;have hyl:=hB.1
  refine⟨_,Z,a,Z,⟨_,hA⟩,Zm8 (K:=K) (a:=a) (xs:=ys) (λj zs H2=>Same H H2/\j<=ys.length/\Bears (Zq5 H2) zs ((cutz (L.take j) (i:Int)).map λl=>cutz l (i:Int))) ⟨Same.refl _,Yr _,by rw[show(cutz (L.take 0) (i:Int)).map (λl=>cutz l (i:Int))=[] by unfold cutz;simp];exact⟨Z,λi l e=>by simp at e⟩⟩ (Zp O) (λj zs H2 hj ⟨e,hj2,ez⟩=>⟨e.seq hA,by
   rw[ez.1,Yy9];refine Yv (Zp10 _ _) ?_;rw[Yp]
   lia⟩) ?_ ?_⟩
  ·rintro j v zs H2 pt hpt hj ⟨s2,hjl,hZ⟩ XW hSS;obtain⟨l,hl,r,rfl,hr⟩:=hB.at hj;have hjl':=(Yy4.mp hj).1
   have s3:=Zz4 (o:=.tup [.int j,.ref r]) hpt;refine⟨pt,_,Z,SqT.of Zz1,Z,_,_,Z,_,_,Z,Z,?_⟩;have hZ3:Bears (Zq5<|upd H2 pt<|.tup [.int j,.ref r]) zs ((cutz (L.take j) (i:Int)).map λl=>cutz l (i:Int)):=hZ.imp λ_ _ zz=>by obtain⟨r',e,h⟩:=zz;exact⟨r',e,s3 _ _ h⟩
   have s23:=s2.trans s3;generalize upd H2 pt (.tup [.int j,.ref r])=H3 at *;refine⟨_,Z,_,Z,Z,_,Z,?_⟩;rw[Zz];refine itn2 (λe=>?_) (λe=>?_)
   ·refine hSS _ _ ⟨s23,hjl',?_⟩;rwa[ZT4 hl,if_pos O,Yy04]
   ·refine⟨_,Z,_,Z,r,l,i,Z,SqL.of<|s23 _ _ hr,hLl l<|Yy8 hl,λc H4 s4 _ hc=>hSS _ _ ⟨s23.trans s4,hjl',?_⟩⟩;rw[ZT4 hl,if_neg O,Yz];exact(hZ3.imp λ_ _ zz=>by obtain⟨r',e,h⟩:=zz;exact⟨r',e,s4 _ _ h⟩).snoc ⟨c,Z,hc⟩
  ·rintro zs H2 ⟨s2,_,hZ⟩ p hp;rw[hyl,YC]at hZ;exact q p zs _ (s2.trans<|Zz4 hp) Zz1 (hZ.imp λ_ _ zz=>by obtain⟨r',e,h⟩:=zz;exact⟨r',e,Zz4 hp _ _ h⟩)
noncomputable def spZ6(C:Addr):Sp:=λvs H Q _=>∃w n ps k,vs=[.ref w,.int k]/\WebAt C H w n ps/\Q (.bl<|decide<|0<=k/\k<(ps.length:Int)) H
theorem okZ6(T:Txt K mg t):OkQ P w base CX0 T.q_is_tie 1 (spZ6 t.A_Web):=by
 refine T.q_is_tie.ok ["web","number"] S (λvs H Q E h=>?_) (λcdv A outer s H vs Q E hr h=>?_)
 ·obtain⟨w,n,ps,k,rfl,_⟩:=h;rfl
 ·obtain⟨w,n,ps,k,rfl,⟨dx,tl,xs,h1,h2,h3⟩,q⟩:=h;refine⟨_,(Zz5<|Zk<|Zw9 Ze8 Zr7 Zz7 (pv 1)<|Zc (Zh K) XS T.n_len Boot.«len»<|Zz0 (ZK K (pv 0) Z) Zz3),?_⟩;refine⟨_,Z,_,_,Z,Z,_,Z,?_⟩;refine ite2 (λhc=>?_) (λhc=>?_)
  ·refine⟨_,Z,w,_,dx,_,_,Z,h1,T.cl_Web,T.n_Web_ties,ZF1 _ _,tl,xs,Z,.inl<|SqL.of h2,_,_,Z,Z,?_⟩;have hc:=YO hc
   show Q (.bl<|decide<|k<(xs.length:Int)) H;rwa[h3.1,show decide (k<(ps.length:Int))=decide (0<=k/\k<(ps.length:Int)) from by simp[hc]]
  ·have hc:¬(0<=k):=λz=>hc (YG z);show Q (.bl false) H
   rwa[show(false:Bool)=decide (0<=k/\k<(ps.length:Int)) from by simp;lia]
noncomputable def spZ7(K:PySem.W.Frag):Sp:=λvs H Q _=>∃n a kd xs ps,vs=[.int n,.ref a]/\SqK kd K H a xs/\PairsV H xs ps/\ZL n ps/\Q .non H
theorem scZ7:FnScope ["places","ties","ends","end"] ["places","ties"] (Zz9 (top 25)):=Zf1 S
theorem okZ7(T:Txt K mg t):OkQ P w base CX0 T.q_refuse_bad_web 1 (spZ7 K):=by
 refine T.q_refuse_bad_web.ok ["places","ties","ends","end"] S (λvs H Q E h=>?_) (λcdv A outer s H vs Q E hr h=>?_)
 ·obtain⟨n,a,kd,xs,ps,rfl,_⟩:=h;rfl
 ·obtain⟨n,a,kd,xs,ps,rfl,hS,hp,⟨g1,g2,g3,g4⟩,q⟩:=h;refine⟨_,(Zz2 (Zz61 (ZN2<|ZO2 Ze8 Ze8 Zz7 (pv 0)<|Zq1 (v:=V.int 14) Z T.g_MOST_PLACES.choose_spec ⟨_,Z⟩)
   (Zz5 Zf2)
   Zm)
   (Zz2 (Zz61 (Zi Zf8 (Zc (Zh K) XS T.n_len Boot.«len»<|Zz0 (pv 1) Zz3) (Zq1 (v:=V.int 30) Z T.g_MOST_TIES.choose_spec ⟨_,Z⟩)<|Zq _)
   (Zz5 Zf2)
   Zm)
   (Zz5 (ZX YM Z (Zh2 K<|pv 1) (Zf (i:=2) scZ7.nd Z<|Or.inl Z)
   (Zz5 (ZX YM Z (Zz06 K<|pv 2) (Zf (i:=3) scZ7.nd Z<|Or.inl Z)
   (Zz5 (Zz61 (ZN2<|ZO2 Ze8 Zr7 Zz7 (pv 3)<|pv 0)
   (Zz5 Zf2)
   Zm)))))))),?_⟩
  refine⟨_,Z,_,_,Z,Z,_,Z,?_⟩;refine itd g1 ?_;refine⟨_,_,Z,Z,_,Z,?_⟩;refine itn g2 ?_;refine⟨_,Z,a,xs,Z,hS.or,_,_,Z,Z,_,Z,?_⟩;refine itdn (by rw[hp.1];lia) ?_;refine⟨_,Z,a,Z,Zy3 (k:=kd) (K:=K) (xs:=xs) (λi σ H2=>∃v v2,σ=[some (.int n),some<|.ref a,v,v2]/\H2=H) ⟨none,none,Z,Z⟩ (λi σ H2 _ zz=>by obtain⟨_,_,_,e⟩:=zz;exact e▸hS) ?_ ?_⟩
  ·rintro i x σ H2 hi ⟨v,v2,rfl,rfl⟩;obtain⟨p,hpi,tt,rfl,ht⟩:=hp.at hi;obtain⟨e1,e2,e3,e4⟩:=g4 p (Yy8 hpi);refine⟨_,Z,tt,Z,⟨_,SqT.of ht⟩,ZB8 (K:=K) (a:=tt) (xs:=[.int p.1,.int p.2]) (λj σ H3=>∃v v2,σ=[some (.int n),some<|.ref a,v,v2]/\H3=H2) ⟨_,_,Z,Z⟩ (λj σ H3 _ zz=>by obtain⟨_,_,_,e⟩:=zz;exact e▸SqT.of ht) ?_ ?_⟩
   ·rintro j y σ H3 hj ⟨v,v2,rfl,rfl⟩;have hy:∃z:Int,y=.int z/\0<=z/\z<n:=by
     match j,hj with
     |0,hj=>exact⟨p.1,(Yl hj).symm,e1,e2⟩
     |1,hj=>exact⟨p.2,(Yl hj).symm,e3,e4⟩
    obtain⟨z,rfl,z1,z2⟩:=hy;refine⟨_,Z,_,_,Z,Z,_,Z,?_⟩;refine itd z1 ?_;refine⟨_,Z,_,_,Z,Z,_,Z,?_⟩;refine itn z2 ?_;exact⟨_,_,Z,Z⟩
   ·rintro σ H3 ⟨v,v2,rfl,rfl⟩;exact⟨_,_,Z,Z⟩
  ·rintro σ H2 ⟨v,v2,rfl,rfl⟩;exact q
noncomputable def Zz85(K:PySem.W.Frag)(C:Addr):Sp:=λvs H Q _=>∃w dx n a kd xs ps,vs=[.ref w,.int n,.ref a]/\H w=some (.ins C dx [])/\(∀o,SqK kd K (upd H w o) a xs)/\PairsV H xs ps/\ZL n ps/\
 ∀H':Hp,WebAt C H' w n ps->(∀b o,H b=some o->b≠w->H' b=some o)->Q .non H'
theorem scZ8:FnScope ["self","places","ties"] ["self","places","ties"] (Zz9 sZ8):=Zf1 S
theorem okZ8 (T:Txt K mg t):FnOk P w K mg base CX0 2 t.aZ8 t.dZ8 ["self","places","ties"] (Zz85 K t.A_Web):=by
 refine T.fZ8.ok scZ8 (λvs H Q E h=>?_) (λcdv A outer s H vs Q E hr h=>?_)
 ·obtain⟨w,dx,n,a,kd,xs,ps,rfl,_⟩:=h;rfl
 ·obtain⟨w,dx,n,a,kd,xs,ps,rfl,hw,hS,hp,g,q⟩:=h;have eH:upd H w (.ins t.A_Web dx [])=H:=by
   funext b
   by_cases hb:b=w
   ·subst hb;rw[Zz1,hw]
   ·rw[Zd hb]
  have hS0:SqK kd K H a xs:=by have z:=hS (.ins t.A_Web dx []);rwa[eH]at z
  refine⟨_,(Zz2 (ZQ<|Zz6 (okZ7 T) hr T.q_refuse_bad_web ZB<|Zz0 (pv 1)<|Zz0 (pv 2) Zz3)
   (Zz2 (Zm9 (pv 0) (pv 1) Z)
   (Zz5<|Zm9 (pv 0) (Zs5 Z (sc0:=Zz9 sZ8) (N0:=["self","places","ties"]) (N':=["ends"]) (o:=1) (fr:=[]) ⟨Z,S,S,S,Z,S⟩ (Zh2 K<|pv 2) (ZE J) (λ_ _ _ _=>(Zf (i:=0) (show List.Nodup (["ends"]:List Str) by decide +kernel) Z<|Or.inl Z)) (λ_ _ _ _=>ZP) λ_ _ _ _=>(Zb1<|Zz0 (ZC (ZN K) (pv 0) Zz7 λ_ _=>rfl)<|Zz0 (ZC (ZN K) (pv 0) Zz7 λ_ _=>rfl) Zz3)) Z))),?_⟩
  refine⟨_,Z,_,Z,n,a,kd,xs,ps,Z,hS0,hp,g,?_⟩;refine⟨_,Z,_,Z,w,_,dx,[],Z,hw,T.cl_Web,T.n_Web_places,(by show 0<1000;decide),?_⟩;have hp1:PairsV (upd H w<|.ins t.A_Web dx<|putF "places" (.int n) []) xs ps:=⟨hp.1,λi p e=>by obtain⟨v,e1,tt,e2,e3⟩:=hp.2 i p e;exact⟨v,e1,tt,e2,by rwa[Zd (ZI9 e3 hw (λz=>nomatch z))]⟩⟩
  have sx:xs.length<sizeLine:=Zp (by rw[hp.1];have:=g.2.2.1;lia);refine⟨_,Z,a,Z,ZK11 (k:=kd) (K:=K) (xs:=xs) (λi ys H2=>i<=xs.length/\ys.length=i/\Same (upd H w<|.ins t.A_Web dx<|putF "places" (.int n) []) H2/\PairsV H2 ys (ps.take i)) ⟨Yr _,Z,Same.refl _,PairsV.nil⟩ sx
   (λi ys H2 _ zz=>by obtain⟨_,hl,s2,_⟩:=zz;exact⟨(hS _).same s2,Nat.le_of_eq hl⟩) ?_ ?_⟩
  ·rintro i x ys H2 hi ⟨h1,hl,s2,hy⟩ XW hSS;obtain⟨p,hpi,tt,rfl,ht⟩:=hp1.at hi;have ht2:=s2 _ _ ht
   refine nmY ?_;refine⟨_,Z,tt,_,0,.int p.1,Z,Z,SqT.of ht2,Z,_,Z,tt,_,1,.int p.2,Z,Z,SqT.of ht2,Z,(by show 2<=sizeLine;decide),λq hq=>?_⟩;have hil:i<xs.length:=(Yy4.mp hi).1
   refine hSS _ _ ⟨hil,by rw[Yy3,hl];rfl,ZA s2 hq,?_⟩;rw[YD,hpi];exact(hy.same<|Zz4 hq).snoc ⟨q,Z,Zz1⟩
  ·rintro ys H2 ⟨_,hl,s2,hy⟩ tl htl;have hw2:=s2 w _ Zz1
   have nwt:w≠tl:=Ze hw2 htl;refine⟨_,Z,w,_,dx,_,Z,(by rwa[Zd nwt]),T.cl_Web,T.n_Web_ties,(by show 1<1000;decide),?_⟩;refine q _ ⟨dx,tl,ys,Zz1,by rw[Zd (YU nwt),Zz1],?_⟩ λb ob e hb=>?_
   ·have e1:ps.take xs.length=ps:=YL (by rw[hp.1];exact Yy6 _);rw[e1]at hy;refine⟨hy.1,λi p e=>?_⟩;obtain⟨v,e2,tt,e3,e4⟩:=hy.2 i p e;exact⟨v,e2,tt,e3,by rwa[Zd (ZI9 e4 hw2 (λz=>nomatch z)),Zd (Ze e4 htl)]⟩
   ·have e2:=s2 b ob (by rwa[Zd hb]);rwa[Zd hb,Zd (Ze e2 htl)]
noncomputable def spZ9(K:PySem.W.Frag)(C R:Addr):Sp:=λvs H Q E=>∃(w a:Addr)(n:Int)(ps:List (Int×Int))(kd:Bool)(ws:List Int),vs=[.ref w,.ref a]/\WebAt C H w n ps/\SqK kd K H a (IL ws)/\
 (ws.length=ps.length->Q .non H)/\(ws.length≠ps.length->E (.ref R) none H)
theorem okZ9(T:Txt K mg t):OkQ P w base (CXW P w) T.q_refuse_bad_row 1 (spZ9 K t.A_Web t.A_BadRow):=by
 refine T.q_refuse_bad_row.okX ["web","numbers"] S (λvs H Q E h=>?_) (λcdv A outer s H vs Q E hr h=>?_)
 ·obtain⟨w,a,n,ps,kd,ws,rfl,_⟩:=h;rfl
 ·obtain⟨w,a,n,ps,kd,ws,rfl,⟨dx,tl,xs,h1,h2,h3⟩,hS,q,qe⟩:=h;refine⟨_,(Zz5 (Zz61 (Zi Zz86 (Zc (Zh K) XS T.n_len Boot.«len»<|Zz0 (pv 1) Zz3) (Zc (Zh K) XS T.n_len Boot.«len»<|Zz0 (ZK K (pv 0) Z) Zz3)<|Zq _)
   (Zz5<|Zj1 T.x_BadRow T.c_BadRow<|Zz0 Zr Zz3)
   Zm)),?_⟩
  have hl:=h3.1;refine⟨_,Z,a,_,Z,hS.or,_,Z,w,_,dx,_,_,Z,h1,T.cl_Web,T.n_Web_ties,ZF1 _ _,tl,xs,Z,.inl<|SqL.of h2,Z,_,Z,?_⟩;rw[Zz,Zz8];refine itn2 (λhc=>?_) (λhc=>?_)
  ·exact q O
  ·exact⟨by show 1<=sizeLine;decide,qe O⟩
noncomputable def spZa(K:PySem.W.Frag)(C:Addr):Sp:=λvs H Q _=>∃w n ps,vs=[.ref w]/\WebAt C H w n ps/\ps.length<=1000/\
 ∀r H',Same H H'->H r=none->H' r=some (.tup<|IL<|rgL ps.length)->Q (.ref r) H'
theorem okZa(T:Txt K mg t):OkQ P w base CX0 T.q_all_ties 1 (spZa K t.A_Web):=by
 refine T.q_all_ties.ok ["web"] S (λvs H Q E h=>?_) (λcdv A outer s H vs Q E hr h=>?_)
 ·obtain⟨w,n,ps,rfl,_⟩:=h;rfl
 ·obtain⟨w,n,ps,rfl,⟨dx,tl,xs,h1,h2,h3⟩,hl,q⟩:=h;refine⟨_,(Zz5<|Zk<|Zj (Zz73 Z) XS T.n_tuple Boot.«tuple»<|Zz0 (Zj Zz93 XS T.n_range Boot.«range»<|Zz0 (Zc (Zh K) XS T.n_len Boot.«len»<|Zz0 (ZK K (pv 0) Z) Zz3) Zz3) Zz3),?_⟩;have hx:=h3.1
  refine⟨_,Z,w,_,dx,_,_,Z,h1,T.cl_Web,T.n_Web_ties,ZF1 _ _,tl,xs,Z,.inl<|SqL.of h2,_,Z,λr hr=>⟨r,0,_,Z,Zz1,⟨J,J,O,O⟩,O,λl hl=>?_⟩⟩;refine q l _ (ZA (Zz4 hr) hl) ((Zz4 hr).free hl) ?_;rw[Zz1,hx,Zh9]
noncomputable def spZb:Sp:=λ_ _ _ _=>False
theorem okZb(T:Txt K mg t):OkQ P w base CX0 T.q_ties_beside 1 spZb:=by
 refine T.q_ties_beside.ok ["web","ties"] S (λvs H Q E h=>?_) (λcdv A outer s H vs Q E hr h=>?_)
 ·exact False.elim h
 ·exact False.elim h
noncomputable def spZc(K:PySem.W.Frag)(C:Addr):Sp:=λvs H Q _=>∃w a n ps kd ns,vs=[.ref w,.ref a]/\WebAt C H w n ps/\SqK kd K H a (IL ns)/\∀b:Bool,(b=true↔IsSet ps.length ns)->Q (.bl b) H
theorem scZc:FnScope ["web","ties","last","tie"] ["web","ties"] (Zz9 (top 31)):=Zf1 S
theorem okZc(T:Txt K mg t):OkQ P w base CX0 T.q_is_set 2 (spZc K t.A_Web):=by
 refine T.q_is_set.ok ["web","ties","last","tie"] S (λvs H Q E h=>?_) (λcdv A outer s H vs Q E hr h=>?_)
 ·obtain⟨w,a,n,ps,kd,ns,rfl,_⟩:=h;rfl
 ·obtain⟨w,a,n,ps,kd,ns,rfl,hW,hS,q⟩:=h;refine⟨_,(Zz2 (Zg (i:=2) scZc.nd Z (Or.inl Z)<|ZL13 ZL10 Zz7)
   (Zz2 (ZX YM Z (Zh2 K<|pv 1) (Zf (i:=3) scZc.nd Z<|Or.inl Z)
   (Zz2 (Zz61 (PW.pt<|ZD10 (Zi Ze8 (pv 3) (pv 2)<|Zq _)<|Zb5<|ZN2<|Zm3<|Zz6 (okZ6 T) hr T.q_is_tie ZB<|Zz0 (pv 0)<|Zz0 (pv 3) Zz3)
   (Zz5<|Zk Zv2)
   Zm)
   (Zz5<|Zg (i:=2) scZc.nd Z (Or.inl Z)<|pv 3)))
   (Zz5<|Zk Zv2))),?_⟩
  refine⟨_,Z,?_⟩;refine⟨_,Z,a,Z,Zy3 (k:=kd) (K:=K) (xs:=IL ns) (λi σ H2=>∃l v,σ=[some (.ref w),some<|.ref a,some<|.int l,v]/\H2=H/\(i=0->l=-1)/\(i≠0->ns[i-1]?=some l)/\∀j z,j<i->ns[j]?=some z->0<=z/\z<(ps.length:Int)/\∀y,j≠0->ns[j-1]?=some y->y<z)
   ⟨-1,none,Z,Z,λ_=>rfl,λz=>absurd Z z,λj z hj=>absurd hj<|Yy00 j⟩ (λi σ H2 _ zz=>by obtain⟨_,_,_,e,_⟩:=zz;exact e▸hS) ?_ ?_⟩
  ·rintro i x σ H2 hi ⟨l,v,rfl,rfl,hl0,hl1,hp⟩;obtain⟨z,rfl,hz⟩:=Zy1 hi;refine⟨_,Z,_,Z,_,_,Z,Z,_,Z,?_⟩;refine itd2 (λhc=>?_) (λhc=>?_)
   ·-- tie<=last
    refine iteT ?_;refine q false ⟨λz=>(nomatch z),λhs=>?_⟩;obtain⟨b1,b2,b3⟩:=hs i z hz;by_cases h0:i=0
    ·have:=hl0 h0;lia
    ·have:=b3 l h0 (hl1 h0);lia
   ·refine⟨_,Z,_,Z,w,n,ps,z,Z,hW,_,Z,?_⟩;refine itn2 (λhc2=>?_) (λhc2=>?_)
    ·refine⟨_,Z,?_⟩;refine⟨z,_,Z,Z,λe=>(nomatch e),λ_=>by simpa using hz,λj y hj ey=>?_⟩;by_cases hji:j<i
     ·exact hp j y hji ey
     ·have e:j=i:=O;subst e;rw[hz]at ey;cases ey;refine⟨hc2.1,hc2.2,λy h0 ey=>?_⟩;rw[hl1 h0]at ey;cases ey;lia
    ·refine q false ⟨λz=>(nomatch z),λhs=>?_⟩;obtain⟨b1,b2,b3⟩:=hs i z hz;exact absurd ⟨b1,b2⟩ hc2
  ·rintro σ H2 ⟨l,v,rfl,rfl,hl0,hl1,hp⟩;refine q true ⟨λ_ i z hz=>?_,λ_=>rfl⟩;have hi:i<(IL ns).length:=by rw[Zz8];exact(Yy4.mp hz).1
   exact hp i z hi hz
noncomputable def spZd(K:PySem.W.Frag)(C XU:Addr):Sp:=λvs H Q E=>∃(w a:Addr)(n:Int)(ps:List (Int×Int))(kd:Bool)(ns:List Int),vs=[.ref w,.ref a]/\WebAt C H w n ps/\SqK kd K H a (IL ns)/\
 (IsSet ps.length ns->∀(r:Addr)(H':Hp),Same H H'->SqT K H' r (IL ns)->Q (.ref r) H')/\(¬IsSet ps.length ns->E (.ref XU) none H)
theorem okZd(T:Txt K mg t):OkQ P w base (CXW P w) T.q_made_set 3 (spZd K t.A_Web t.A_BadSet):=by
 refine T.q_made_set.okX ["web","ties"] S (λvs H Q E h=>?_) (λcdv A outer s H vs Q E hr h=>?_)
 ·obtain⟨w,a,n,ps,kd,ns,rfl,_⟩:=h;rfl
 ·obtain⟨w,a,n,ps,kd,ns,rfl,hW,hS,q,qe⟩:=h;refine⟨_,(Zz2 (Zz61 (ZN2<|Zm3<|Zz6 (okZc T) hr T.q_is_set ZB<|Zz0 (pv 0)<|Zz0 (pv 1) Zz3)
   (Zz5<|Zj1 T.x_BadSet T.c_BadSet<|Zz0 Zr Zz3)
   Zm)
   (Zz5<|Zk<|Zj (ZW1 K) XS T.n_tuple Boot.«tuple»<|Zz0 (pv 1) Zz3)),?_⟩
  refine⟨_,Z,_,Z,w,a,n,ps,kd,ns,Z,hW,hS,λb hb=>⟨_,Z,?_⟩⟩;refine itnb (λz=>?_) (λz=>?_)
  ·refine⟨_,Z,a,IL ns,Z,?_⟩;cases kd with
   |false=>exact .inl ⟨hS,λl hl=>q (hb.mp z) l _ (Zz4 hl)<|SqT.of Zz1⟩
   |true=>exact .inr ⟨hS,q (hb.mp z) a H (Same.refl H) hS⟩
  ·exact⟨by show 1<=sizeLine;decide,qe λhI=>by rw[hb.mpr hI]at z;cases z⟩
noncomputable def spZe(K:PySem.W.Frag)(C:Addr):Sp:=λvs H Q _=>∃w m a n ps M kd ns,vs=[.ref w,.ref m,.ref a]/\WebAt C H w n ps/\ZL n ps/\H m=some (.lst<|IL M)/\M.length=n.toNat/\SqK kd K H a (IL ns)/\(∀z∈ns,0<=z/\z<(ps.length:Int))/\
 ∀m' H',Same H H'->(m'=m\/H m'=none)->H' m'=some (.lst<|IL<|pmf M<|Za ps ns)->Q (.ref m') H'
theorem scZe:FnScope ["web","marks","ties","tie","ends","low","high"] ["web","marks","ties"] (Zz9 (top 33)):=Zf1 S
theorem okZe(T:Txt K mg t):OkQ P w base CX0 T.q_merged_marks 1 (spZe K t.A_Web):=by
 refine T.q_merged_marks.ok ["web","marks","ties","tie","ends","low","high"] S (λvs H Q E h=>?_) (λcdv A outer s H vs Q E hr h=>?_)
 ·obtain⟨w,m,a,n,ps,M,kd,ns,rfl,_⟩:=h;rfl
 ·obtain⟨w,m0,a,n,ps,M0,kd,ns,rfl,⟨dx,tl,xs,h1,h2,h3⟩,⟨g1,g2,g3,g4⟩,hm,hlM,hS,hI,q⟩:=h;refine⟨_,(Zz2 (ZX YM Z (Zh2 K<|pv 2) (Zf (i:=3) scZe.nd Z<|Or.inl Z)
   (Zz2 (Zg (i:=4) scZe.nd Z (Or.inl Z)<|ZC (Zb K) (ZK K (pv 0) Z) (pv 3) λ_ _=>rfl)
   (Zz2 (Zg (i:=5) scZe.nd Z (Or.inr Z)<|Zc (Za2 Z) XS T.n_min Boot.«min»<|Zz0 (ZC (Zb K) (pv 1) (ZC (ZN K) (pv 4) Zz7 λ_ _=>rfl) λ_ _=>rfl)<|Zz0 (ZC (Zb K) (pv 1) (ZC (ZN K) (pv 4) Zz7 λ_ _=>rfl) λ_ _=>rfl) Zz3)
   (Zz2 (Zg (i:=6) scZe.nd Z (Or.inr Z)<|Zc (Zb2 Z) XS T.n_max Boot.«max»<|Zz0 (ZC (Zb K) (pv 1) (ZC (ZN K) (pv 4) Zz7 λ_ _=>rfl) λ_ _=>rfl)<|Zz0 (ZC (Zb K) (pv 1) (ZC (ZN K) (pv 4) Zz7 λ_ _=>rfl) λ_ _=>rfl) Zz3)
   (Zz5 (Zz61 (Zi Zr7 (pv 5) (pv 6)<|Zq _)
   (Zz5<|Zo7 (i:=1) Z scZe.nd Z Z (sc0:=Zz9<|top 33) (N0:=["web","marks","ties","tie","ends","low","high"]) (N':=["mark","high","low"]) (o:=1) (fr:=[6,5]) ⟨Z,S,S,S,Z,S⟩ (ZS K<|pv 1) (ZE J) (λ_ _ _ _=>(Zf (i:=0) (show List.Nodup (["mark","high","low"]:List Str) by decide +kernel) Z<|Or.inl Z)) (λ_ _ _ _=>ZP) λ_ _ _ _=>(Zj2 (Zi Zz32 (pv 0) (pv 1)<|Zq _) (pv 2)<|pv 0))
   Zm))))))
   (Zz5<|Zk<|pv 1)),?_⟩
  refine⟨_,Z,a,Z,Zy3 (k:=kd) (K:=K) (a:=a) (xs:=IL ns) (λi σ H2=>∃m v3 v4 v5 v6,σ=[some (.ref w),some<|.ref m,some<|.ref a,v3,v4,v5,v6]/\Same H H2/\(m=m0\/H m=none)/\H2 m=some (.lst<|IL<|pmf M0<|Za ps<|ns.take i))
   ⟨m0,none,none,none,none,Z,Same.refl _,.inl Z,hm⟩ (λi σ H2 _ zz=>by obtain⟨_,_,_,_,_,_,s2,_⟩:=zz;exact hS.same s2) ?_ ?_⟩
  ·rintro i x σ H2 hi ⟨m,v3,v4,v5,v6,rfl,s2,hm0,hm2⟩;obtain⟨z,rfl,hz⟩:=Zy1 hi;obtain⟨z0,z1⟩:=hI z (Yy8 hz);obtain⟨p,hp⟩:∃p,ps[z.toNat]?=some p:=⟨_,Yy0 O⟩;obtain⟨v,hv,tt,rfl,htt⟩:=h3.2 z.toNat p hp;obtain⟨e1,e2,e3,e4⟩:=g4 p (Yy8 hp);have ed:ps.getD z.toNat (0,0)=p:=ZR1 hp
   refine⟨_,Z,w,_,dx,_,_,Z,s2 _ _ h1,T.cl_Web,T.n_Web_ties,ZF1 _ _,_,Z,tl,xs,z,.ref tt,Z,Z,SqL.of<|s2 _ _ h2,Zw (n:=z.toNat) O hv,?_⟩;have ht2:=s2 _ _ htt
   have hl:(pmf M0<|Za ps<|ns.take i).length=n.toNat:=(ZZ5 _ _).trans hlM;generalize hM:pmf M0 (Za ps<|ns.take i)=M at *;have ha:M[p.1.toNat]?=some (mk M p.1.toNat):=ZP1 XR
   have hb:M[p.2.toNat]?=some (mk M p.2.toNat):=ZP1 XR;have iA:atI (IL M) p.1=some (.int<|mk M p.1.toNat):=Zw (n:=p.1.toNat) O (by rw[Yg,ha];rfl)
   have iB:atI (IL M) p.2=some (.int<|mk M p.2.toNat):=Zw (n:=p.2.toNat) O (by rw[Yg,hb];rfl);have t0:atI ([.int p.1,.int p.2]:List V) 0=some (.int p.1):=rfl
   have t1:atI ([.int p.1,.int p.2]:List V) 1=some (.int p.2):=rfl;refine⟨_,rfl,_,rfl,tt,_,0,_,rfl,rfl,SqT.of ht2,t0,m,_,p.1,_,rfl,rfl,SqL.of hm2,iA,_,rfl,_,rfl,tt,_,1,_,rfl,rfl,SqT.of ht2,t1,m,_,p.2,_,rfl,rfl,SqL.of hm2,iB,_,_,rfl,?_⟩;refine⟨_,rfl,_,rfl,tt,_,0,_,rfl,rfl,SqT.of ht2,t0,m,_,p.1,_,rfl,rfl,SqL.of hm2,iA,_,rfl,_,rfl,tt,_,1,_,rfl,rfl,SqT.of ht2,t1,m,_,p.2,_,rfl,rfl,SqL.of hm2,iB,_,_,rfl,?_⟩;have eL:(if mk M p.2.toNat<mk M p.1.toNat then mk M p.2.toNat else mk M p.1.toNat)=min (mk M p.1.toNat) (mk M p.2.toNat):=by rw[Int.min_def];split<;>split<;>lia
   have eH:(if mk M p.2.toNat>mk M p.1.toNat then mk M p.2.toNat else mk M p.1.toNat)=max (mk M p.1.toNat) (mk M p.2.toNat):=by rw[Int.max_def];split<;>split<;>lia
   refine⟨_,Z,_,Z,_,_,Z,Z,_,Z,?_⟩;rw[eL,eH];have step:pmf M0 (Za ps<|ns.take<|i+1)=pm M p.1.toNat p.2.toNat:=by rw[ZI2 hz,Zo9,hM,ed]
   refine itd2 (λhc=>?_) (λhc=>?_)
   ·refine⟨_,Z,m,Z,⟨_,SqL.of hm2⟩,Zx1 (K:=K) (a:=m) (xs:=IL M) (λj ys H3=>H3=H2/\j<=M.length/\ys=IL ((M.take j).map λk=>if k=max (mk M p.1.toNat) (mk M p.2.toNat) then min (mk M p.1.toNat) (mk M p.2.toNat) else k)) ⟨Z,Yr _,Z⟩ (Zp<|by rw[Zz8];grind)
     (λj ys H3 hj zz=>by obtain⟨e,hjl,ey⟩:=zz;exact⟨e▸SqL.of hm2,by rw[ey,Zz8,Yy9,Yp];lia⟩) ?_ ?_⟩
    ·rintro j y ys H3 hj ⟨rfl,hjl,rfl⟩ XW hSS;obtain⟨k,rfl,hk⟩:=Zy1 hj;refine nmY ?_;refine⟨_,Z,_,Z,Z,_,Z,?_⟩;have hjl':j<M.length:=(Yy4.mp hk).1
     have app:∀r:Int,r=(if k=max (mk M p.1.toNat) (mk M p.2.toNat) then min (mk M p.1.toNat) (mk M p.2.toNat) else k)->
       IL ((M.take j).map λk=>if k=max (mk M p.1.toNat) (mk M p.2.toNat) then min (mk M p.1.toNat) (mk M p.2.toNat) else k)++[.int r]=IL ((M.take<|j+1).map λk=>if k=max (mk M p.1.toNat) (mk M p.2.toNat) then min (mk M p.1.toNat) (mk M p.2.toNat) else k):=by intro r er;rw[YD,hk,er];simp
     refine itd2 (λhe=>?_) (λhe=>?_)
     ·refine⟨_,Z,hSS _ _ ⟨Z,hjl',app _ ?_⟩⟩;rw[if_pos (V.int.inj he)]
     ·refine⟨_,Z,hSS _ _ ⟨Z,hjl',app _ ?_⟩⟩;rw[if_neg λz=>he (YX V.int z)]
    ·rintro ys H3 ⟨rfl,_,rfl⟩ p' hp';refine⟨p',_,_,_,_,Z,ZA s2 hp',.inr<|s2.free hp',?_⟩;rw[Zz1,step,Zz8,YC];unfold pm;rw[if_pos hc]
   ·refine⟨m,_,_,_,_,Z,s2,hm0,?_⟩;rw[hm2,step];unfold pm;rw[if_neg hc]
  ·rintro σ H2 ⟨m,v3,v4,v5,v6,rfl,s2,hm0,hm2⟩;rw[Zz8,YC]at hm2;exact⟨_,Z,q m H2 s2 hm0 hm2⟩
noncomputable def spZf(K:PySem.W.Frag)(C:Addr):Sp:=λvs H Q _=>∃w a n ps ns,vs=[.ref w,.ref a]/\WebAt C H w n ps/\ZL n ps/\SqT K H a (IL ns)/\(∀z∈ns,0<=z/\z<(ps.length:Int))/\
 ∀m H',Same H H'->H m=none->H' m=some (.lst<|IL<|pms n.toNat<|Za ps ns)->Q (.ref m) H'
theorem okZf(T:Txt K mg t):OkQ P w base CX0 T.q_piece_marks 2 (spZf K t.A_Web):=by
 refine T.q_piece_marks.ok ["web","ties"] S (λvs H Q E h=>?_) (λcdv A outer s H vs Q E hr h=>?_)
 ·obtain⟨w,a,n,ps,ns,rfl,_⟩:=h;rfl
 ·obtain⟨w,a,n,ps,ns,rfl,hW,hG,hS,hI,q⟩:=h;refine⟨_,(Zz5<|Zk<|Zz6 (okZe T) hr T.q_merged_marks ZB<|Zz0 (pv 0)<|Zz0 (Zj (Zz02 Z) XS T.n_list Boot.«list»<|Zz0 (Zj Zz93 XS T.n_range Boot.«range»<|Zz0 (ZK K (pv 0) Z) Zz3) Zz3)<|Zz0 (pv 1) Zz3),?_⟩;obtain⟨dx,tl,xs,h1,h2,h3⟩:=id hW;obtain⟨g1,g2,g3,g4⟩:=id hG;refine⟨_,Z,_,Z,w,_,dx,_,_,Z,h1,T.cl_Web,T.n_Web_places,Zz71 _ _,n,Z,λr hr0=>⟨r,0,n,Z,Zz1,⟨J,J,O,XT⟩,O,λm hm=>?_⟩⟩;have sm:Same H (upd (upd H r<|.rng 0 n) m<|.lst<|(rngI 0 n).map V.int):=ZA (Zz4 hr0) hm
  refine⟨_,Z,w,m,a,n,ps,(List.range n.toNat).map λ(i:Nat)=>(i:Int),true,ns,Z,hW.same sm,hG,?_,B,ZG5 sm hS,hI,λm' H' s' hf hm'=>?_⟩
  ·rw[Zz1,Zu4]
  ·refine q m' H' (sm.trans s') ?_ hm';rcases hf with rfl|hf
   ·exact(Zz4 hr0).free hm
   ·exact sm.free hf
noncomputable def spZg(K:PySem.W.Frag)(C:Addr):Sp:=λvs H Q _=>∃(w a:Addr)(n:Int)(ps:List (Int×Int))(kd:Bool)(ns:List Int),vs=[.ref w,.ref a]/\WebAt C H w n ps/\ZL n ps/\SqK kd K H a (IL ns)/\IsSet ps.length ns/\
 ∀(r:Addr)(as:List Addr)(H':Hp),Same H H'->H r=none->H' r=some (.lst<|as.map V.ref)->r∉as->GrpAt H H' (grp<|pms n.toNat<|Za ps ns) as->Q (.ref r) H'
theorem scZg:FnScope ["web","ties","pieces","place","mark"] ["web","ties"] (Zz9 (top 35)):=Zf1 S
theorem okZg(T:Txt K mg t):OkQ P w base CX0 T.q_pieces_of 4 (spZg K t.A_Web):=by
 refine T.q_pieces_of.ok ["web","ties","pieces","place","mark"] S (λvs H Q E h=>?_) (λcdv A outer s H vs Q E hr h=>?_)
 ·obtain⟨w,a,n,ps,kd,ns,rfl,_⟩:=h;rfl
 ·obtain⟨w,a,n,ps,kd,ns,rfl,hW,hG,hS,hI,q⟩:=h;refine⟨_,(Zz2 (Zg (i:=2) scZg.nd Z (Or.inl Z) Zv9)
   (Zz2 (ZX YM Z (ZR2 K Z T.n_enumerate<|Zz0 (Zz6 (okZf T) hr T.q_piece_marks ZB<|Zz0 (pv 0)<|Zz0 (Zz6 (okZd T) hr T.q_made_set Zg13<|Zz0 (pv 0)<|Zz0 (pv 1) Zz3) Zz3) Zz3) (Zv1 (n:=2) K Z<|Zv (Zf (i:=3) scZg.nd Z<|Or.inl Z)<|Zv (Zf (i:=4) scZg.nd Z<|Or.inl Z) Zu1)
   (Zz5<|ZQ<|Zk1 K YY Yy06 Yy05 Zz91 (Zk1 K Y3g Y2I PySem.F.type_dict_setdefault Zt3 (pv 2)<|Zz0 (pv 4)<|Zz0 (ZT Zz3) Zz3)<|Zz0 (pv 3) Zz3))
   (Zz5<|Zk<|Zj (Za3 Z) XS T.n_list Boot.«list»<|Zz0 (Zk11 K Y3g Y3b PySem.F.type_dict_values Zu7<|pv 2) Zz3))),?_⟩
  intro d hd;have s0:Same H (upd H d<|.dK []):=Zz4 hd
  refine⟨_,Z,_,Z,_,Z,w,a,n,ps,kd,ns,Z,hW.same s0,hS.same s0,λ_ r H1 s1 hr1=>?_,λh=>absurd hI h⟩;refine⟨w,r,n,ps,ns,Z,(hW.same s0).same s1,hG,hr1,hI.all,λm H2 s2 hm1 hm2=>?_⟩;have s02:Same H H2:=(s0.trans s1).trans s2
  have hd2:H2 d=some (.dK []):=s2 _ _ (s1 _ _ Zz1);have hl:(pms n.toNat<|Za ps ns).length=n.toNat:=Zt _ _
  generalize hM:pms n.toNat (Za ps ns)=M at *;have hm0:H m=none:=(s0.trans s1).free hm1
  have n14:M.length<=14:=by have:=hG.2.1;grind
  refine⟨m,Z,⟨_,SqL.of hm2⟩,?_⟩;refine ZJ6 (K:=K) (a:=m) (xs:=IL M) (λi σ H3=>∃(as:List Addr)(v3 v4:Option V),σ=[some (.ref w),some<|.ref a,some<|.ref d,v3,v4]/\i<=M.length/\Same H H3/\H3 m=some (.lst<|IL M)/\H3 d=some (.dK<|gkv (grpA M i) as)/\d∉as/\m∉as/\GrpAt H H3 (grpA M i) as/\as.length<=i)
   ⟨[],none,none,Z,Yr _,s02,hm2,hd2,B,B,⟨Z,List.nodup_nil,λi kv a e=>by simp[grpA]at e,λa ha=>by simp at ha⟩,Yy6 _⟩ (λi σ H3 _ zz=>by obtain⟨_,_,_,_,_,_,h,_⟩:=zz;exact SqL.of h) ?_ ?_
  ·rintro i x σ H3 pt hpt hi ⟨as,v3,v4,rfl,hil,s3,hm3,hd3,nda,nma,gA,hal⟩;obtain⟨k,rfl,hk⟩:=Zy1 hi;have hk':mk M i=k:=ZR1 hk
   have hil':i<M.length:=(Yy4.mp hk).1;have s4:Same H3 (upd H3 pt<|.tup [.int i,.int k]):=Zz4 hpt
   refine⟨pt,_,Z,SqT.of Zz1,Z,_,_,Z,_,_,Z,Z,?_⟩;refine⟨_,Z,.inr<|.inr<|.inl ⟨Z,.inl ⟨_,s4 _ _ hd3⟩⟩,_,Z,(by show 0<=sizeLine;exact Yr _),λl hl0=>?_⟩;have s5:Same H3 (upd (upd H3 pt<|.tup [.int i,.int k]) l<|.lst []):=ZA s4 hl0
   have hd5:=s5 _ _ hd3;have hl3:H3 l=none:=s4.free hl0
   have ndl:d≠l:=Ze hd3 hl3;have gl:=gA.len
   refine⟨d,gkv (grpA M i) as,Sum.inl k,.ref l,Z,Z,hd5,?_,λv hv=>?_,λhv=>?_⟩
   ·rw[ZG6 gl];exact Zp XR
   ·-- the mark has its list
    rcases ZE6 (g:=grpA M i) (as:=as) (k:=k) gl with ⟨h1,_⟩|⟨j,kv,b,e1,e2,e3,e4⟩
    ·rw[h1]at hv;cases hv
    ·rw[e4]at hv;cases hv;have hb5:=s5 _ _ (gA.at_ j kv b e1 e2)
     have hkm:k∈(grpA M i).map (·.1):=Yt.mpr ⟨kv,Yy8 e1,e3⟩;have hlen:kv.2.length<=i:=Zz34 (Yy8 e1)
     refine⟨.inl ⟨Z,_,SqL.of hb5⟩,_,Z,b,_,.int i,Z,Z,hb5,?_,?_⟩
     ·rw[Zz8];exact Zp XR
     ·have hbas:b∈as:=Yy8 e2;have hdb:d≠b:=λz=>nda (z▸hbas)
      have hmb:m≠b:=λz=>nma (z▸hbas);have hb0:=gA.new b hbas
      have ekeys:(grpA M<|i+1).map (·.1)=(grpA M i).map (·.1):=by show(Zz24 (grpA M i) (i:Int)<|mk M i).map (·.1)=_;rw[ZQ1,hk',if_pos hkm]
      refine⟨as,_,_,Z,hil',Zu hb0<|s3.trans s5,by rw[Zd hmb];exact s5 _ _ hm3,by rw[Zd hdb,hd5,ZH6 ekeys],nda,nma,⟨?_,gA.nd,?_,gA.new⟩,O⟩
      ·have:=YX List.length ekeys
       rw[Yy9,Yy9]at this;lia
      ·intro i2 kv2 a2 f1 f2;have f1:(Zz24 (grpA M i) (i:Int)<|mk M i)[i2]?=some kv2:=f1
       unfold Zz24 at f1;rw[hk',if_pos hkm,Yg]at f1;cases f3:(grpA M i)[i2]? with
       |none=>rw[f3]at f1;cases f1
       |some kv3=>
        rw[f3]at f1;have f1:(if kv3.1=k then (kv3.1,kv3.2++[(i:Int)]) else kv3)=kv2:=Yl f1
        by_cases hj:i2=j
        ·subst hj;rw[e1]at f3;cases f3;rw[e2]at f2;cases f2;rw[if_pos e3]at f1;subst f1;rw[Zz1];simp
        ·have hab:a2≠b:=λz=>by subst z;exact hj (ZT2 gA.nd f2 e2)
         have hkk:¬kv3.1=k:=λz=>hj (ZT2 (Zq2 M i) (by rw[Yg,f3];exact YX some z)<|by rw[Yg,e1];exact YX some e3);rw[if_neg hkk]at f1;subst f1;rw[Zd hab];exact s5 _ _ (gA.at_ i2 kv3 a2 f3 f2)
   ·-- a new list
    rcases ZE6 (g:=grpA M i) (as:=as) (k:=k) gl with ⟨h1,hkn⟩|⟨j,kv,b,e1,e2,e3,e4⟩
    ·have hl6:(upd (upd (upd H3 pt<|.tup [.int i,.int k]) l<|.lst []) d<|.dK<|gkv (grpA M i) as++[(Sum.inl k,.ref l)]) l=some (.lst []):=by rw[Zd (YU ndl),Zz1]
     refine⟨.inl ⟨Z,_,SqL.of hl6⟩,_,Z,l,[],.int i,Z,Z,hl6,(by show 0<sizeLine;decide),?_⟩;have hl0':H l=none:=s3.free hl3
     have hlas:l∉as:=λz=>by obtain⟨_,e⟩:=gA.mem z;rw[hl3]at e;cases e
     have hml:m≠l:=Ze hm3 hl3;have hmd:m≠d:=ZI9 hm3 hd3 (λz=>nomatch z)
     have egr:grpA M (i+1)=grpA M i++[(k,[(i:Int)])]:=by show Zz24 (grpA M i) (i:Int) (mk M i)=_;unfold Zz24;rw[hk',if_neg hkn]
     have hdH:H d=none:=hd;refine⟨as++[l],_,_,Z,hil',Zu hl0'<|Zu hdH<|s3.trans s5,by rw[Zd hml,Zd hmd];exact s5 _ _ hm3,?_,?_,?_,⟨?_,?_,?_,?_⟩,?_⟩
     ·rw[Zd ndl,Zz1,egr,ZF6 gl]
     ·rw[Yj,Yy2];rintro(z|z)
      ·exact nda z
      ·exact ndl z
     ·rw[Yj,Yy2];rintro(z|z)
      ·exact nma z
      ·exact hml z
     ·rw[egr,Yy3,Yy3,gl];rfl
     ·exact Ze6 gA.nd hlas
     ·intro i2 kv2 a2 f1 f2;rw[egr]at f1;by_cases hi2:i2<(grpA M i).length
      ·rw[Ys hi2]at f1;rw[Ys O]at f2;have e:=gA.at_ i2 kv2 a2 f1 f2
       have n1:a2≠l:=Ze e hl3;have n2:a2≠d:=ZI9 e hd3 (λz=>nomatch z)
       rw[Zd n1,Zd n2];exact s5 _ _ e
      ·have h2:i2=(grpA M i).length:=by
        have:=(Yy4.mp f1).1
        rw[Yy3,Yw]at this;grind
       subst h2;rw[Yn (Yy6 _),Y0R]at f1;rw[Yn O,gl,Y0R]at f2;cases f1;cases f2;rw[Zz1];rfl
     ·intro a2 ha2;rcases Yj.mp ha2 with z|z
      ·exact gA.new a2 z
      ·rwa[Yy2.mp z]
     ·rw[Yy3,Yw];lia
    ·rw[e4]at hv;cases hv
  ·rintro σ H3 ⟨as,v3,v4,rfl,hil,s3,hm3,hd3,nda,nma,gA,hal⟩;rw[Zz8]at hd3 gA;refine⟨_,Z,.inr<|.inr<|.inl ⟨Z,.inl ⟨_,hd3⟩⟩,d,_,Z,Z,hd3,λp hp=>?_⟩;have s6:Same H3 (upd H3 p<|ZC10 p d):=Zz4 hp
   refine⟨p,d,_,Z,Zz1,s6 _ _ hd3,λr hr0=>?_⟩;have s7:Same H3 (upd (upd H3 p<|ZC10 p d) r (.lst ((gkv (grpA M M.length) as).map (·.2)))):=ZA s6 hr0
   refine q r as _ (s3.trans s7) ((s3.trans s6).free hr0) (by rw[Zz1,Yz8 gA.len]) (λz=>?_) (gA.same s7);obtain⟨_,e⟩:=gA.mem z;rw[s6.free hr0]at e;cases e
noncomputable def spZh(K:PySem.W.Frag)(C:Addr):Sp:=λvs H Q _=>∃w a n ps kd ns,vs=[.ref w,.ref a]/\WebAt C H w n ps/\ZL n ps/\SqK kd K H a (IL ns)/\IsSet ps.length ns/\
 ∀b H',Same H H'->(b=true↔(grp<|pms n.toNat<|Za ps ns).length=1)->Q (.bl b) H'
theorem okZh(T:Txt K mg t):OkQ P w base CX0 T.q_is_joined 5 (spZh K t.A_Web):=by
 refine T.q_is_joined.ok ["web","ties"] S (λvs H Q E h=>?_) (λcdv A outer s H vs Q E hr h=>?_)
 ·obtain⟨w,a,n,ps,kd,ns,rfl,_⟩:=h;rfl
 ·obtain⟨w,a,n,ps,kd,ns,rfl,hW,hG,hS,hI,q⟩:=h;refine⟨_,(Zz5<|Zk<|ZN1 Zz32 (Zc (Zh K) XS T.n_len Boot.«len»<|Zz0 (Zz6 (okZg T) hr T.q_pieces_of ZB<|Zz0 (pv 0)<|Zz0 (pv 1) Zz3) Zz3) Zz7<|Zq _),?_⟩;refine⟨_,Z,_,Z,w,a,n,ps,kd,ns,Z,hW,hG,hS,hI,λr as H' s1 hr0 hr1 hnr gA=>?_⟩;refine⟨r,_,Z,.inl<|SqL.of hr1,Z,?_⟩;rw[Yy9,gA.len,Zz];refine q _ H' s1 ?_;rw[YT];lia
noncomputable def spZi(K:PySem.W.Frag)(C XU:Addr):Sp:=λvs H Q E=>∃(w:Addr)(n:Int)(ps:List (Int×Int)),vs=[.ref w]/\WebAt C H w n ps/\ZL n ps/\
 (Za7 n ps->∀H':Hp,Same H H'->Q .non H')/\(¬Za7 n ps->∀H':Hp,Same H H'->E (.ref XU) none H')
theorem okZi(T:Txt K mg t):OkQ P w base (CXW P w) T.q_refuse_parted 6 (spZi K t.A_Web t.A_Parted):=by
 refine T.q_refuse_parted.okX ["web"] S (λvs H Q E h=>?_) (λcdv A outer s H vs Q E hr h=>?_)
 ·obtain⟨w,n,ps,rfl,_⟩:=h;rfl
 ·obtain⟨w,n,ps,rfl,hW,hG,q,qe⟩:=h;refine⟨_,(Zz5 (Zz61 (ZN2<|Zm3<|Zz6 (okZh T) hr T.q_is_joined ZB<|Zz0 (pv 0)<|Zz0 (Zz6 (okZa T) hr T.q_all_ties ZB<|Zz0 (pv 0) Zz3) Zz3)
   (Zz5<|Zj1 T.x_Parted T.c_Parted<|Zz0 Zr Zz3)
   Zm)),?_⟩
  refine⟨_,Z,_,Z,w,n,ps,Z,hW,by have:=hG.2.2.1;lia,λr H1 s1 hr0 hr1=>?_⟩;refine⟨w,r,n,ps,true,rgL ps.length,Z,hW.same s1,hG,SqT.of hr1,ZR5 _,λb H2 s2 hb=>⟨_,Z,?_⟩⟩;rw[Zy6 (by have:=hG.1;lia) (ZV hG (ZR5 _).all)]at hb;refine itnb (λz=>?_) (λz=>?_)
  ·exact q (hb.mp z) H2 (s1.trans s2)
  ·exact⟨by show 1<=sizeLine;decide,qe (λg=>by rw[hb.mpr g]at z;cases z) H2<|s1.trans s2⟩
noncomputable def spZj(K:PySem.W.Frag)(C:Addr):Sp:=λvs H Q _=>∃w b n ps ws,vs=[.ref w,.ref b]/\WebAt C H w n ps/\ZL n ps/\SqL K H b (IL ws)/\ws.length=ps.length/\
 ∀r ys L H',Same H H'->H r=none->TabAt H r n.toNat H' ys L->(∀i j,i<n.toNat->j<n.toNat->fnL L i j=lapE (ZY1 ps ws) i j)->Q (.ref r) H'
theorem ZU5(x:V)(k:Nat):(List.replicate k [x]).flatten=List.replicate k x:=by
 induction k with
 |zero=>rfl
 |succ k ih=>rw[Y0F,Y1x,ih,Y0F];rfl
theorem Zc10(n i j:Nat):fnL (List.replicate n (List.replicate n 0)) i j=0:=by
 unfold fnL;cases h:(List.replicate n<|List.replicate n (0:Int))[i]? with
 |none=>
  have e:(List.replicate n<|List.replicate n (0:Int)).getD i []=[]:=by rw[Yy7,h];rfl
  rw[e];rfl
 |some l=>
  have e:(List.replicate n<|List.replicate n (0:Int)).getD i []=l:=by rw[Yy7,h];rfl
  rw[e,Y1g<|Yy8 h,Yy7,Y0X];split<;>rfl
theorem TabAt.get{H0 H:Hp}{r:Addr}{n:Nat}{ys:List V}{L:List (List Int)}(h:TabAt H0 r n H ys L){i j:Nat}(hi:i<n)(hj:j<n):∃A l x,ys[i]?=some (.ref A)/\H A=some (.lst (IL l))/\l[j]?=some x/\l.length=n/\x=fnL L i j/\H0 A=none/\∀y:Int,∃L':List (List Int),TabAt H0 r n (upd H A (.lst ((IL l).set j (.int y)))) ys L'/\∀a b,fnL L' a b=if a=i/\b=j then y else fnL L a b:=by
 obtain⟨A,l,y1,z1,hA,hl,hn,hr⟩:=h.at hi;obtain⟨x,hx⟩:∃x,l[j]?=some x:=⟨_,Yy0 O⟩;refine⟨A,l,x,y1,hA,hx,hl,(Zy2 z1 hx).symm,hn,λy=>⟨L.set i<|l.set j y,?_,Zz212 z1 O⟩⟩;have e:(IL l).set j (.int y)=IL (l.set j y):=(List.map_set ..).symm
 rw[e];exact h.put y1 z1 hr (by rwa[Y0i])
theorem ZC7{xs:List V}{i:Int}(h0:0<=i)(h1:i<(xs.length:Int)):ixN xs.length i=some i.toNat:=by unfold ixN;rw[if_pos h0,if_pos XT]
theorem scZj:FnScope ["web","weights","table","ends","weight","one","other"] ["web","weights"] (Zz9 (top 39)):=Zf1 S
theorem okZj(T:Txt K mg t):OkQ P w base CX0 T.q_weighted_table 1 (spZj K t.A_Web):=by
 refine T.q_weighted_table.ok ["web","weights","table","ends","weight","one","other"] S (λvs H Q E h=>?_) (λcdv A outer s H vs Q E hr h=>?_)
 ·obtain⟨w,b,n,ps,ws,rfl,_⟩:=h;rfl
 ·obtain⟨w,b,n,ps,ws,rfl,hW,hG,hS,hwl,q⟩:=h;refine⟨_,(Zz2 (Zo7 (i:=2) Z scZj.nd Z Z (sc0:=Zz9<|top 39) (N0:=["web","weights","table","ends","weight","one","other"]) (N':=["place","web"]) (o:=1) (fr:=[0]) ⟨Z,S,S,S,Z,S⟩ (ZR Z T.n_range<|Zz0 (ZK K (pv 0) Z) Zz3) (ZE J) (λ_ _ _ _=>(Zf (i:=0) (show List.Nodup (["place","web"]:List Str) by decide +kernel) Z<|Or.inl Z)) (λ_ _ _ _=>ZP) λ_ _ _ _=>(Zn Zo11 (ZT<|Zz0 Zz7 Zz3)<|ZK K (pv 1) Z))
   (Zz2 (ZX YM Z (Zt9 K Z T.n_zip<|Zz0 (ZK K (pv 0) Z)<|Zz0 (pv 1) Zz3) (Zv1 (n:=2) K Z<|Zv (Zf (i:=3) scZj.nd Z<|Or.inl Z)<|Zv (Zf (i:=4) scZj.nd Z<|Or.inl Z) Zu1)
   (Zz2 (Zg (i:=5) scZj.nd Z (Or.inl Z)<|ZC (ZN K) (pv 3) Zz7 λ_ _=>rfl)
   (Zz2 (Zg (i:=6) scZj.nd Z (Or.inl Z)<|ZC (ZN K) (pv 3) Zz7 λ_ _=>rfl)
   (Zz5 (Zz61 (Zi Zz86 (pv 5) (pv 6)<|Zq _)
   (Zz2 (Zw4 (ZC (Zb K) (pv 2) (pv 5) λ_ _=>rfl) (pv 5) (Zz62 K) (pv 4) ZT11 Zt1)
   (Zz2 (Zw4 (ZC (Zb K) (pv 2) (pv 6) λ_ _=>rfl) (pv 6) (Zz62 K) (pv 4) ZT11 Zt1)
   (Zz2 (Zw4 (ZC (Zb K) (pv 2) (pv 5) λ_ _=>rfl) (pv 6) (Zz62 K) (pv 4) ZZ9 Zt1)
   (Zz5<|Zw4 (ZC (Zb K) (pv 2) (pv 6) λ_ _=>rfl) (pv 5) (Zz62 K) (pv 4) ZZ9 Zt1))))
   Zm)))))
   (Zz5<|Zk<|pv 2))),?_⟩
  obtain⟨dx,tl,xs,h1,h2,h3⟩:=id hW;have hl:=h3.1
  obtain⟨g1,g2,g3,g4⟩:=id hG;have one:1<=sizeLine:=J
  refine⟨_,Z,w,_,dx,_,_,Z,h1,T.cl_Web,T.n_Web_places,Zz71 _ _,n,Z,O,O,Zm2 (lo:=0) (n:=n.toNat) (λi zs H2=>Same H H2/\Bears (Zq5 H2) zs (List.replicate i<|List.replicate n.toNat 0)/\zs.Nodup/\∀A,V.ref A∈zs->H A=none/\∃o,H2 A=some o) ⟨Same.refl _,⟨Z,λi l e=>by simp at e⟩,.nil,λA h=>(by cases h)⟩ (Zp O) (λi zs H2 _ zz=>by obtain⟨_,e,_⟩:=zz;rw[e.1,Yx];exact Yy6 _) ?_ ?_⟩
  ·rintro i zs H2 hi ⟨s2,hZ,hnd,hnew⟩ XW hSS;refine nm ?_;refine⟨one,λp1 hp1=>?_⟩;have u1:=Zz4 (o:=.lst [.int 0]) hp1
   refine⟨_,Z,w,_,dx,_,_,Z,u1 _ _<|s2 _ _ h1,T.cl_Web,T.n_Web_places,Zz71 _ _,p1,n,_,Z,Z,Zz1,O,O,ZK1 (by show 1*n.toNat<=_;lia),λp2 hp2=>?_⟩;have e0:(List.replicate n.toNat [V.int 0]).flatten=IL (List.replicate n.toNat 0):=by rw[ZU5];show _=(List.replicate n.toNat 0).map V.int;rw[List.map_replicate]
   rw[e0];have u2:=u1.trans (Zz4 (o:=.lst<|IL<|List.replicate n.toNat 0) hp2)
   have hp20:H2 p2=none:=(Zz4 hp1).free hp2;refine hSS _ _ ⟨s2.trans u2,?_,?_,λA hA=>?_⟩
   ·rw[List.replicate_succ'];exact(hZ.imp λ_ _ zz=>by obtain⟨r',e,h⟩:=zz;exact⟨r',e,u2 _ _ h⟩).snoc ⟨p2,Z,Zz1⟩
   ·refine Yy15.mpr ⟨hnd,B,λx hx y hy e=>?_⟩;rw[Yy2.mp hy]at e;obtain⟨_,o,ho⟩:=hnew p2 (e▸hx);rw[hp20]at ho;cases ho
   ·rcases Yj.mp hA with e|e
    ·obtain⟨a1,o,a2⟩:=hnew A e;exact⟨a1,o,u2 _ _ a2⟩
    ·have e':A=p2:=by simpa using e
     rw[e'];exact⟨s2.free hp20,_,Zz1⟩
  rintro zs H2 ⟨s2,hZ,hnd,hnew⟩ tA htA;have s3:=s2.trans (Zz4 (o:=.lst zs) htA)
  have htA0:H tA=none:=s2.free htA;have hT:TabAt H tA n.toNat (upd H2 tA<|.lst zs) zs (List.replicate n.toNat<|List.replicate n.toNat 0):=⟨Zz1,hZ.imp λ_ _ zz=>by obtain⟨r',e,h⟩:=zz;exact⟨r',e,Zz4 htA _ _ h,Ze h htA⟩,Yx,λl h=>by rw[Y1g h];exact Yx,hnd,λA h=>(hnew A h).1⟩
  have hzero:∀i j,fnL (List.replicate n.toNat<|List.replicate n.toNat 0) i j=0:=λi j=>by
   have:=Zc10 n.toNat i j
   exact this
  generalize upd H2 tA (.lst zs)=H3 at *;generalize List.replicate n.toNat (List.replicate n.toNat (0:Int))=L0 at *;refine⟨_,Z,w,_,dx,_,_,Z,s3 _ _ h1,T.cl_Web,T.n_Web_ties,ZF1 _ _,_,Z,tl,b,Z,⟨_,_,SqL.of<|s3 _ _ h2,s3.seq hS⟩,Zz112 (K:=K) (a:=tl) (b:=b) (xs:=xs) (ys:=IL ws) (by rw[Zz8];lia) (λi σ H4=>∃L v3 v4 v5 v6,σ=[some (.ref w),some<|.ref b,some<|.ref tA,v3,v4,v5,v6]/\Same H H4/\TabAt H tA n.toNat H4 zs L/\∀x y,x<n.toNat->y<n.toNat->fnL L x y=lapE (ZY1 (ps.take i)<|ws.take i) x y) ⟨L0,none,none,none,none,Z,s3,hT,λx y _ _=>hzero x y⟩ (λi σ H4 _ zz=>by obtain⟨_,_,_,_,_,_,e,_⟩:=zz;exact⟨SqL.of<|e _ _ h2,e.seq hS⟩) ?_ ?_⟩
  ·rintro i v v' σ H4 pt hpt hi hi' ⟨L,v3,v4,v5,v6,rfl,s4,hT4,hlap⟩;obtain⟨p,hp,tt,rfl,htt⟩:=h3.at hi;obtain⟨wt,rfl,hwt⟩:=Zy1 hi';obtain⟨e1,e2,e3,e4⟩:=g4 p (Yy8 hp);have u1:=Zz4 (o:=.tup [.ref tt,.int wt]) hpt
   refine⟨pt,_,Z,SqT.of Zz1,Z,_,_,Z,_,_,Z,Z,?_⟩;have hT5:=hT4.same u1
   have s5:=s4.trans u1;generalize upd H4 pt (.tup [.ref tt,.int wt])=H5 at *;refine⟨_,Z,tt,_,0,.int p.1,Z,Z,SqT.of<|s5 _ _ htt,Z,?_⟩;refine⟨_,Z,tt,_,1,.int p.2,Z,Z,SqT.of<|s5 _ _ htt,Z,?_⟩;refine⟨_,Z,_,Z,Z,_,Z,?_⟩;rw[Zz];have esn:=Zj10 hp hwt
   refine itn2 (λheq=>?_) (λhne=>?_)
   ·refine⟨L,_,_,_,_,Z,s5,hT5,λx y hx hy=>?_⟩;rw[esn,ZG4 (by show p.1.toNat=p.2.toNat;rw[heq])];exact hlap x y hx hy
   have hne':p.1.toNat≠p.2.toNat:=λe=>hne XR;obtain⟨A1,l1,x1,y1,hA1,hx1,hl1,ex1,hn1,put1⟩:=hT5.get (i:=p.1.toNat) (j:=p.1.toNat) XR O;refine⟨_,Z,_,Z,tA,zs,p.1,.ref A1,Z,Z,SqL.of hT5.tab,Zw (n:=p.1.toNat) O y1,_,Z,A1,_,p.1,.int x1,Z,Z,SqL.of hA1,O,Zh5 hx1,_,Z,_,_,Z,Z,A1,_,p.1,p.1.toNat,Z,Z,hA1,ZC7 O (by rw[Zz8];grind),?_⟩;obtain⟨L1,hT6,hf1⟩:=put1 (x1+wt);have s6:Same H (upd H5 A1<|.lst<|(IL l1).set p.1.toNat (.int<|x1+wt)):=Zu hn1 s5
   generalize upd H5 A1 (.lst<|(IL l1).set p.1.toNat (.int<|x1+wt))=H6 at *;rw[ex1]at hf1;obtain⟨A2,l2,x2,y2,hA2,hx2,hl2,ex2,hn2,put2⟩:=hT6.get (i:=p.2.toNat) (j:=p.2.toNat) XR O;refine⟨_,Z,_,Z,tA,zs,p.2,.ref A2,Z,Z,SqL.of hT6.tab,Zw (n:=p.2.toNat) O y2,_,Z,A2,_,p.2,.int x2,Z,Z,SqL.of hA2,O,Zh5 hx2,_,Z,_,_,Z,Z,A2,_,p.2,p.2.toNat,Z,Z,hA2,ZC7 O (by rw[Zz8];grind),?_⟩;obtain⟨L2,hT7,hf2⟩:=put2 (x2+wt);have s7:Same H (upd H6 A2<|.lst<|(IL l2).set p.2.toNat (.int<|x2+wt)):=Zu hn2 s6
   generalize upd H6 A2 (.lst<|(IL l2).set p.2.toNat (.int<|x2+wt))=H7 at *;rw[ex2]at hf2;obtain⟨A3,l3,x3,y3,hA3,hx3,hl3,ex3,hn3,put3⟩:=hT7.get (i:=p.1.toNat) (j:=p.2.toNat) XR XR;refine⟨_,Z,_,Z,tA,zs,p.1,.ref A3,Z,Z,SqL.of hT7.tab,Zw (n:=p.1.toNat) O y3,_,Z,A3,_,p.2,.int x3,Z,Z,SqL.of hA3,O,Zh5 hx3,_,Z,_,_,Z,Z,A3,_,p.2,p.2.toNat,Z,Z,hA3,ZC7 O (by rw[Zz8];grind),?_⟩;obtain⟨L3,hT8,hf3⟩:=put3 (x3-wt);have s8:Same H (upd H7 A3<|.lst<|(IL l3).set p.2.toNat (.int<|x3-wt)):=Zu hn3 s7
   generalize upd H7 A3 (.lst<|(IL l3).set p.2.toNat (.int<|x3-wt))=H8 at *;rw[ex3]at hf3;obtain⟨A4,l4,x4,y4,hA4,hx4,hl4,ex4,hn4,put4⟩:=hT8.get (i:=p.2.toNat) (j:=p.1.toNat) XR XR;refine⟨_,Z,_,Z,tA,zs,p.2,.ref A4,Z,Z,SqL.of hT8.tab,Zw (n:=p.2.toNat) O y4,_,Z,A4,_,p.1,.int x4,Z,Z,SqL.of hA4,O,Zh5 hx4,_,Z,_,_,Z,Z,A4,_,p.1,p.1.toNat,Z,Z,hA4,ZC7 O (by rw[Zz8];grind),?_⟩;obtain⟨L4,hT9,hf4⟩:=put4 (x4-wt);have s9:Same H (upd H8 A4<|.lst<|(IL l4).set p.1.toNat (.int<|x4-wt)):=Zu hn4 s8
   generalize upd H8 A4 (.lst<|(IL l4).set p.1.toNat (.int<|x4-wt))=H9 at *;rw[ex4]at hf4;refine⟨L4,_,_,_,_,Z,s9,hT9,λx y hx hy=>?_⟩;rw[esn,ZW2,<-hlap x y hx hy];exact four hne' x y hf1 hf2 hf3 hf4
  ·rintro σ H4 ⟨L,v3,v4,v5,v6,rfl,s4,hT4,hlap⟩;rw[hl,YC,<-hwl,YC]at hlap;exact⟨_,Z,q tA zs L H4 s4 htA0 hT4 hlap⟩
noncomputable def spZk(K:PySem.W.Frag)(C:Addr):Sp:=λvs H Q _=>∃w n ps,vs=[.ref w]/\WebAt C H w n ps/\ZL n ps/\
 ∀r ys L H',Same H H'->H r=none->TabAt H r n.toNat H' ys L->(∀i j,i<n.toNat->j<n.toNat->fnL L i j=lapE (ZY1 ps<|List.replicate ps.length 1) i j)->Q (.ref r) H'
theorem okZk(T:Txt K mg t):OkQ P w base CX0 T.q_pull_table 2 (spZk K t.A_Web):=by
 refine T.q_pull_table.ok ["web"] S (λvs H Q E h=>?_) (λcdv A outer s H vs Q E hr h=>?_)
 ·obtain⟨w,n,ps,rfl,_⟩:=h;rfl
 ·obtain⟨w,n,ps,rfl,hW,hG,q⟩:=h;refine⟨_,(Zz5<|Zk<|Zz6 (okZj T) hr T.q_weighted_table ZB<|Zz0 (pv 0)<|Zz0 (Zn Zo11 (ZT<|Zz0 Zz7 Zz3)<|Zc (Zh K) XS T.n_len Boot.«len»<|Zz0 (ZK K (pv 0) Z) Zz3) Zz3),?_⟩;obtain⟨dx,tl,xs,h1,h2,h3⟩:=id hW;have hl:=h3.1
  have g3:=hG.2.2.1;refine⟨_,Z,(by show 1<=sizeLine;decide),λp1 hp1=>?_⟩;have u1:=Zz4 (o:=.lst [.int 1]) hp1
  refine⟨_,Z,w,_,dx,_,_,Z,u1 _ _ h1,T.cl_Web,T.n_Web_ties,ZF1 _ _,tl,xs,Z,.inl<|SqL.of<|u1 _ _ h2,p1,(xs.length:Int),_,Z,Z,Zz1,O,O,ZK1 (by show 1*_<=_;lia),λp2 hp2=>?_⟩;have e0:(List.replicate (xs.length:Int).toNat [V.int 1]).flatten=IL (List.replicate ps.length 1):=by
   rw[YA,hl,ZU5];show _=(List.replicate ps.length 1).map V.int
   rw[List.map_replicate]
  rw[e0];have u2:=u1.trans (Zz4 (o:=.lst<|IL<|List.replicate ps.length 1) hp2)
  refine⟨w,p2,n,ps,List.replicate ps.length 1,Z,hW.same u2,hG,SqL.of Zz1,Yx,λr ys L H' s hr hT hf=>?_⟩;exact q r ys L H' (u2.trans s) (u2.free hr) ⟨hT.tab,hT.rows,hT.len,hT.all,hT.nd,λA h=>u2.free<|hT.new A h⟩ hf
noncomputable def spZl(K:PySem.W.Frag)(C:Addr):Sp:=λvs H Q _=>∃w n ps,vs=[.ref w]/\WebAt C H w n ps/\ZL n ps/\∀c H',TC n ps c->Same H H'->Q (.int c) H'
theorem Zs8(u v i:Nat):(ind u v i).natAbs<=1:=by unfold ind;split<;>split<;>decide
theorem Zn8:∀{E:List Ed},(∀e∈E,e.2.2=1)->∀i j,(lapE E i j).natAbs<=E.length
 |[],_,i,j=>Yy6 0
 |e::E,h,i,j=>by
  have ih:=Zn8 (λf hf=>h f<|Yc _ hf) i j;have h1:=Zs8 e.1 e.2.1 i
  have h2:=Zs8 e.1 e.2.1 j;have h3:(ind e.1 e.2.1 i*ind e.1 e.2.1 j).natAbs<=1:=by rw[Y3f];exact Yy11 h1 h2
  show(e.2.2*(ind e.1 e.2.1 i*ind e.1 e.2.1 j)+lapE E i j).natAbs<=(e::E).length;rw[h e Yb,Y0t,Yq]
  have:=Int.natAbs_add_le (ind e.1 e.2.1 i*ind e.1 e.2.1 j) (lapE E i j)
  lia
theorem ZX6{α:Type}{l:List α}{i:Nat}(hi:l.length=i+1):cutz l (i:Int)=l.take i:=by unfold cutz;rw[YA,Y0H O,Yy04]
theorem okZl(T:Txt K mg t):OkQ P w base CX0 T.q_tree_count 3 (spZl K t.A_Web):=by
 refine T.q_tree_count.ok ["web"] S (λvs H Q E h=>?_) (λcdv A outer s H vs Q E hr h=>?_)
 ·obtain⟨w,n,ps,rfl,_⟩:=h;rfl
 ·obtain⟨w,n,ps,rfl,hW,hG,q⟩:=h;refine⟨_,(Zz5<|Zk<|Zz6 (okZ3 T) hr T.q_determinant ZB<|Zz0 (Zz6 (okZ5 T) hr T.q_table_without ZB<|Zz0 (Zz6 (okZk T) hr T.q_pull_table ZB<|Zz0 (pv 0) Zz3)<|Zz0 (Zn Zz22 (ZK K (pv 0) Z) Zz7) Zz3) Zz3),?_⟩;obtain⟨g1,g2,g3,g4⟩:=id hG;refine⟨_,Z,w,n,ps,Z,hW,hG,λr ys L H1 s1 hr hT hf=>?_⟩;obtain⟨dx,tl,xs,h1,h2,h3⟩:=id hW;refine⟨_,Z,w,_,dx,_,_,Z,s1 _ _ h1,T.cl_Web,T.n_Web_places,Zz71 _ _,_,_,Z,Z,?_⟩;obtain⟨k,hk⟩:∃k:Nat,n-1=(k:Int):=⟨(n-1).toNat,XT⟩;have hnk:n.toNat=k+1:=XR
  have hLl:=hT.len;have hTB:Bears (Zq5 H1) ys L:=hT.rows.imp λ_ _ h=>h.list
  refine⟨r,ys,L,k,?_,SqL.of hT.tab,hTB,XR,λl h=>by rw[hT.all l h];grind,O,λr2 zs H2 s2 hr2 hZ=>?_⟩
  ·show [V.ref r,V.int (n-1)]=_;rw[hk]
  have w1:∀e∈ZY1 ps (List.replicate ps.length (1:Int)),e.2.2=1:=λe he=>by
   unfold ZY1 at he;obtain⟨i,hi⟩:=Y0v he;rw[Y0f]at hi;cases h1:ps[i]? with
   |none=>rw[h1]at hi;cases hi
   |some p=>
    cases h2:(List.replicate ps.length (1:Int))[i]? with
    |none=>rw[h1,h2]at hi;cases hi
    |some w=>
     rw[h1,h2]at hi;obtain rfl:=Yl hi;exact Y1g (Yy8 h2)
  have el:(ZY1 ps<|List.replicate ps.length (1:Int)).length<=30:=by unfold ZY1;rw[Y0e,Yx];lia
  have hM:(cutz L (k:Int)).map (λl=>cutz l (k:Int))=(L.take k).map λl=>l.take k:=by rw[ZX6 O];exact YN λl hl=>ZX6 (by rw[hT.all l (Yy19 hl)];lia)
  rw[hM]at hZ;have hMl:((L.take k).map λl=>l.take k).length=k:=by rw[Yy9,Yp];grind
  have hfn:∀i j,i<k->j<k->fnL ((L.take k).map λl=>l.take k) i j=lapE (ZY1 ps<|List.replicate ps.length 1) i j:=λi j hi hj=>by
   rw[<-hf i j XR XR];obtain⟨l,hl⟩:∃l,L[i]?=some l:=⟨_,Yy0 XR⟩;have hll:=hT.all l (Yy8 hl)
   obtain⟨x,hx⟩:∃x,l[j]?=some x:=⟨_,Yy0 XR⟩;rw[Zy2 hl hx];exact Zy2 (l:=l.take k) (by rw[Yg,Y2t,if_pos hi,hl];rfl) (by rwa[Y2t,if_pos hj])
  refine⟨r2,false,zs,(L.take k).map λl=>l.take k,Z,SqL.of hr2,hZ.imp (λ_ _ zz=>by obtain⟨r',e,h⟩:=zz;exact⟨r',false,e,SqL.of h⟩),by rw[hMl];lia,λi j hi hj=>?_,λ_ H3 s3=>?_,λh=>absurd (λl hl=>?_) h⟩
  ·rw[hMl]at hi hj;rw[hfn i j hi hj];exact Yv (Zn8 w1 i j) (Yv el<|Yv (by decide:30<=2^5)<|Y2g J J)
  ·have hd:det ((L.take k).map λl=>l.take k).length (fnL<|(L.take k).map λl=>l.take k)=det (n-1).toNat (lapE<|ZY1 ps<|List.replicate ps.length 1):=by rw[hMl,show(n-1).toNat=k by lia];exact Zl λi j hi hj=>hfn i j hi hj
   obtain⟨c,M,a1,a2,a3⟩:∃c,TC n ps c:=by obtain⟨M,a1,a2,_⟩:=Yz1 _ (n-1).toNat (ZY1 ps<|List.replicate ps.length 1) Z (Zz812 hG _);exact⟨M.length,M,a1,λl=>by rw[a2,Zr8 g1 Yx],Z⟩
   rw[hd,Zz09 hG a1 a2,a3];exact q c H3 ⟨M,a1,a2,a3⟩ (s1.trans<|s2.trans s3)
  ·obtain⟨l0,h0,rfl⟩:=Yt.mp hl;rw[hMl,Yp,hT.all l0 (Yy19 h0)];grind
noncomputable def spZm:Sp:=λ_ _ _ _=>False
theorem okZm(T:Txt K mg t):OkQ P w base CX0 T.q_part_count 1 spZm:=by
 refine T.q_part_count.ok ["web","inside","outside","marks","firsts","numbers","gone","free"] S (λvs H Q E h=>?_) (λcdv A outer s H vs Q E hr h=>?_)
 ·exact False.elim h
 ·exact False.elim h
noncomputable def spZn(K:PySem.W.Frag)(C:Addr):Sp:=λvs H Q _=>∃w a n ps kd ns,vs=[.ref w,.ref a]/\WebAt C H w n ps/\ZL n ps/\SqK kd K H a (IL ns)/\
 ∀b H',Same H H'->(b=true↔Zo n ps ns)->Q (.bl b) H'
theorem okZn(T:Txt K mg t):OkQ P w base CX0 T.q_is_tree 6 (spZn K t.A_Web):=by
 refine T.q_is_tree.ok ["web","ties"] S (λvs H Q E h=>?_) (λcdv A outer s H vs Q E hr h=>?_)
 ·obtain⟨w,a,n,ps,kd,ns,rfl,_⟩:=h;rfl
 ·obtain⟨w,a,n,ps,kd,ns,rfl,hW,hG,hS,q⟩:=h;refine⟨_,(Zz5<|Zk<|Zm11 (Zz6 (okZc T) hr T.q_is_set ZB<|Zz0 (pv 0)<|Zz0 (pv 1) Zz3)<|Zm11 (ZN1 Zz32 (Zc (Zh K) XS T.n_len Boot.«len»<|Zz0 (pv 1) Zz3) (Zn Zz22 (ZK K (pv 0) Z) Zz7)<|Zq _)<|Zh11<|Zz6 (okZh T) hr T.q_is_joined ZB<|Zz0 (pv 0)<|Zz0 (pv 1) Zz3),?_⟩;refine⟨_,Z,_,Z,w,a,n,ps,kd,ns,Z,hW,hS,λb hb=>⟨b,Z,?_⟩⟩;refine itb (λe=>?_) (λe=>?_)
  ·have hI:=hb.mp e;obtain⟨dx,tl,xs,h1,h2,h3⟩:=id hW;refine⟨_,Z,a,_,Z,hS.or,_,Z,w,_,dx,_,_,Z,h1,T.cl_Web,T.n_Web_places,Zz71 _ _,_,_,Z,Z,Z,_,Z,?_⟩;rw[Zz8,Zz];refine itd2 (λhl=>?_) (λhl=>?_)
   ·refine⟨_,Z,_,Z,w,a,n,ps,kd,ns,Z,hW,hG,hS,hI,λb2 H' s hb2=>q b2 H' s ?_⟩;rw[hb2,Zy6 (by have:=hG.1;grind) (ZV hG hI.all)];exact⟨λz=>⟨hI,hl,z⟩,λz=>z.2.2⟩
   ·exact q false H (Same.refl H) ⟨λz=>(nomatch z),λz=>absurd z.2.1 hl⟩
  ·exact q false H (Same.refl H) ⟨λz=>(nomatch z),λz=>by rw[hb.mpr z.1]at e;cases e⟩
noncomputable def spZo(K:PySem.W.Frag)(C XU:Addr):Sp:=λvs H Q E=>∃(w a:Addr)(n:Int)(ps:List (Int×Int))(kd:Bool)(ns:List Int),vs=[.ref w,.ref a]/\WebAt C H w n ps/\ZL n ps/\SqK kd K H a (IL ns)/\
 (Zo n ps ns->∀H':Hp,Same H H'->Q .non H')/\(¬Zo n ps ns->∀H':Hp,Same H H'->E (.ref XU) none H')
theorem okZo(T:Txt K mg t):OkQ P w base (CXW P w) T.q_refuse_no_tree 7 (spZo K t.A_Web t.A_NoTree):=by
 refine T.q_refuse_no_tree.okX ["web","tree"] S (λvs H Q E h=>?_) (λcdv A outer s H vs Q E hr h=>?_)
 ·obtain⟨w,a,n,ps,kd,ns,rfl,_⟩:=h;rfl
 ·obtain⟨w,a,n,ps,kd,ns,rfl,hW,hG,hS,q,qe⟩:=h;refine⟨_,(Zz5 (Zz61 (ZN2<|Zm3<|Zz6 (okZn T) hr T.q_is_tree ZB<|Zz0 (pv 0)<|Zz0 (pv 1) Zz3)
   (Zz5<|Zj1 T.x_NoTree T.c_NoTree<|Zz0 Zr Zz3)
   Zm)),?_⟩
  refine⟨_,Z,_,Z,w,a,n,ps,kd,ns,Z,hW,hG,hS,λb H' s hb=>⟨_,Z,?_⟩⟩;refine itnb (λz=>?_) (λz=>?_)
  ·exact q (hb.mp z) H' s
  ·exact⟨by show 1<=sizeLine;decide,qe (λg=>by rw[hb.mpr g]at z;cases z) H' s⟩
noncomputable def spZp(K:PySem.W.Frag)(C:Addr):Sp:=λvs H Q _=>∃w a b n ps ka kb ns os,vs=[.ref w,.ref a,.ref b]/\WebAt C H w n ps/\ZL n ps/\SqK ka K H a (IL ns)/\SqK kb K H b (IL os)/\ns.length<=1000/\os.length<=1000/\(∀z∈ns++os,0<=z/\z<(ps.length:Int))/\
 (((grw n.toNat ps<|ns++os).take ns.length≠ns\/((grw n.toNat ps<|ns++os).length:Int)<n-1)->∀H':Hp,Same H H'->Q .non H')/\
 ((grw n.toNat ps<|ns++os).take ns.length=ns->¬((grw n.toNat ps<|ns++os).length:Int)<n-1->∀r ms H',ms.Perm (grw n.toNat ps<|ns++os)->ms.Pairwise (·<=·)->Same H H'->H r=none->H' r=some (.tup<|IL ms)->Q (.ref r) H')
theorem scZp:FnScope ["web","inside","order","marks","grown","tie","ends"] ["web","inside","order"] (Zz9 (top 46)):=Zf1 S
theorem okZp(T:Txt K mg t):OkQ P w base CX0 T.q_grown_tree 3 (spZp K t.A_Web):=by
 refine T.q_grown_tree.ok ["web","inside","order","marks","grown","tie","ends"] S (λvs H Q E h=>?_) (λcdv A outer s H vs Q E hr h=>?_)
 ·obtain⟨w,a,b,n,ps,ka,kb,ns,os,rfl,_⟩:=h;rfl
 ·obtain⟨w,a,b,n,ps,ka,kb,ns,os,rfl,hW,hG,hS,hS2,hnl,hol,hI,q0,q1⟩:=h;refine⟨_,(Zz2 (Zg (i:=3) scZp.nd Z (Or.inl Z)<|Zz6 (okZf T) hr T.q_piece_marks ZB<|Zz0 (pv 0)<|Zz0 (Zb1 Zz3) Zz3)
   (Zz2 (Zg (i:=4) scZp.nd Z (Or.inl Z)<|ZT Zz3)
   (Zz2 (ZX YM Z (ZS K<|Zn Zt7 (Zj (Zz51 K) XS T.n_list Boot.«list»<|Zz0 (pv 1) Zz3)<|Zj (Zz51 K) XS T.n_list Boot.«list»<|Zz0 (pv 2) Zz3) (Zf (i:=5) scZp.nd Z<|Or.inl Z)
   (Zz2 (Zg (i:=6) scZp.nd Z (Or.inl Z)<|ZC (Zb K) (ZK K (pv 0) Z) (pv 5) λ_ _=>rfl)
   (Zz5 (Zz61 (Zi Zz86 (ZC (Zb K) (pv 3) (ZC (ZN K) (pv 6) Zz7 λ_ _=>rfl) λ_ _=>rfl) (ZC (Zb K) (pv 3) (ZC (ZN K) (pv 6) Zz7 λ_ _=>rfl) λ_ _=>rfl)<|Zq _)
   (Zz2 (Zg (i:=3) scZp.nd Z (Or.inl Z)<|Zz6 (okZe T) hr T.q_merged_marks ZB<|Zz0 (pv 0)<|Zz0 (pv 3)<|Zz0 (Zb1<|Zz0 (pv 5) Zz3) Zz3)
   (Zz5<|ZQ<|Zk1 K YY Yy06 Yy05 Zz91 (pv 4)<|Zz0 (pv 5) Zz3))
   Zm))))
   (Zz2 (Zz61 (PW.pt<|ZD10 (Zi (ZC4 K<|hu8 hr) (ZW (Zz11 K) (pv 4) Zo1<|Zn1<|Zc (Zh K) XS T.n_len Boot.«len»<|Zz0 (pv 1) Zz3) (Zj (Zz51 K) XS T.n_list Boot.«list»<|Zz0 (pv 1) Zz3)<|Zq _)<|Zb5<|Zi Zr7 (Zc (Zh K) XS T.n_len Boot.«len»<|Zz0 (pv 4) Zz3) (Zn Zz22 (ZK K (pv 0) Z) Zz7)<|Zq _)
   (Zz5<|Zk Zz16)
   Zm)
   (Zz5<|Zk<|Zj (ZW1 K) XS T.n_tuple Boot.«tuple»<|Zz0 (Zc (Zd4 K) XS T.n_sorted Boot.«sorted»<|Zz0 (pv 4) Zz3) Zz3))))),?_⟩
  obtain⟨g1,g2,g3,g4⟩:=id hG;have one:1<=sizeLine:=J
  refine⟨_,Z,Yr _,λr0 hr0=>?_⟩;have s0:=Zz4 (o:=.tup []) hr0
  refine⟨w,r0,n,ps,[],Z,hW.same s0,hG,SqT.of Zz1,λ_ e=>(nomatch e),λm H1 s1 hm0 hm1=>?_⟩;have s01:=s0.trans s1
  have hmf:=s0.free hm0;refine⟨Yr _,λgl hgl=>?_⟩;have s2:=Zz4 (o:=.lst []) hgl
  have s02:=s01.trans s2;have hgf:=s01.free hgl
  refine⟨_,Z,a,_,Z,(hS.same s02).or,λl1 hl1=>?_⟩;have s3:=Zz4 (o:=.lst<|IL ns) hl1
  have s03:=s02.trans s3;refine⟨_,Z,b,_,Z,(hS2.same s03).or,λl2 hl2=>?_⟩;have s4:=Zz4 (o:=.lst<|IL os) hl2
  have s04:=s03.trans s4;refine⟨l1,l2,_,_,Z,Z,s4 _ _ Zz1,Zz1,ZK1 (by rw[Zz8,Zz8];lia),λcl hcl=>?_⟩;have s5:=Zz4 (o:=.lst<|IL ns++IL os) hcl
  have s05:=s04.trans s5;have eI:IL ns++IL os=IL (ns++os):=(ZG7 _ _).symm
  have hgl5:=s5 _ _ (s4 _ _<|s3 _ _<|Zz1 (H:=H1) (a:=gl) (o:=.lst []));have hm5:=s5 _ _ (s4 _ _<|s3 _ _<|s2 _ _ hm1)
  have hcl5:=Zz1 (H:=upd (upd (upd H1 gl<|.lst []) l1<|.lst<|IL ns) l2<|.lst<|IL os) (a:=cl) (o:=.lst<|IL ns++IL os);have ncg:cl≠gl:=λe=>by rw[e]at hcl;exact absurd ((s4 _ _<|s3 _ _<|Zz1 (H:=H1) (a:=gl) (o:=.lst [])).symm.trans hcl) B
  have nmg:m≠gl:=λe=>by rw[e]at hm1;exact absurd (hm1.symm.trans hgl) B
  rw[eI]at s5 s05 hgl5 hm5 hcl5 ⊢;generalize upd (upd (upd (upd H1 gl<|.lst []) l1<|.lst<|IL ns) l2<|.lst<|IL os) cl (.lst<|IL<|ns++os)=H5 at *;refine⟨cl,Z,⟨_,SqL.of hcl5⟩,Zr2 (K:=K) (a:=cl) (xs:=IL<|ns++os) (λi σ H2=>∃mc v5 v6,σ=[some (.ref w),some<|.ref a,some<|.ref b,some<|.ref mc,some<|.ref gl,v5,v6]/\Same H H2/\mc≠gl/\
    H2 cl=some (.lst<|IL<|ns++os)/\H2 mc=some (.lst<|IL<|pms n.toNat<|Za ps<|grw n.toNat ps<|(ns++os).take i)/\H2 gl=some (.lst<|IL<|grw n.toNat ps<|(ns++os).take i))
   ⟨m,none,none,Z,s05,nmg,hcl5,hm5,hgl5⟩ (λi σ H2 _ zz=>by obtain⟨_,_,_,_,_,_,e,_⟩:=zz;exact SqL.of e) ?_ ?_⟩
  ·rintro i x σ H2 hi ⟨mc,v5,v6,rfl,s2,hne,hc2,hm2,hg2⟩;obtain⟨z,rfl,hz⟩:=Zy1 hi;obtain⟨z0,z1⟩:=hI z (Yy8 hz);have hIt:∀y∈(ns++os).take i,0<=y/\y<(ps.length:Int):=λy hy=>hI y (Yy19 hy)
   have est:(ns++os).take (i+1)=(ns++os).take i++[z]:=by rw[YD,hz];rfl
   have eG:grw n.toNat ps ((ns++os).take (i+1))=gst n.toNat ps (grw n.toNat ps<|(ns++os).take i) z:=by rw[est,ZJ1]
   have hin:=Zz410 hG hIt;have hgl14:=Zw8 hG hIt
   generalize grw n.toNat ps ((ns++os).take i)=G at *;obtain⟨dx,tl,xs,h1,h2,h3⟩:=hW.same s2;obtain⟨p,hp⟩:∃p,ps[z.toNat]?=some p:=⟨_,Yy0 O⟩;obtain⟨v,hv,tt,rfl,htt⟩:=h3.2 z.toNat p hp;obtain⟨e1,e2,e3,e4⟩:=g4 p (Yy8 hp);have ed:ZF ps z=(p.1.toNat,p.2.toNat):=by unfold ZF;rw[ZR1 hp]
   have hl:(pms n.toNat<|Za ps G).length=n.toNat:=Zt _ _;have iA:atI (IL<|pms n.toNat<|Za ps G) p.1=some (.int<|mk (pms n.toNat<|Za ps G) p.1.toNat):=Zw (n:=p.1.toNat) O (Zh5<|ZP1 XR)
   have iB:atI (IL<|pms n.toNat<|Za ps G) p.2=some (.int<|mk (pms n.toNat<|Za ps G) p.2.toNat):=Zw (n:=p.2.toNat) O (Zh5<|ZP1 XR);have t0:atI ([.int p.1,.int p.2]:List V) 0=some (.int p.1):=rfl
   have t1:atI ([.int p.1,.int p.2]:List V) 1=some (.int p.2):=rfl;have key:mk (pms n.toNat<|Za ps G) p.1.toNat=mk (pms n.toNat<|Za ps G) p.2.toNat↔mk (lms n.toNat<|Za ps G) (ZF ps z).1=mk (lms n.toNat<|Za ps G) (ZF ps z).2:=by rw[ed,Zo3 hin XR XR,Zz31 hin XR XR]
   refine⟨_,Z,w,_,dx,_,_,Z,h1,T.cl_Web,T.n_Web_ties,ZF1 _ _,_,Z,tl,xs,z,.ref tt,Z,Z,SqL.of h2,Zw (n:=z.toNat) O hv,?_⟩;refine⟨_,Z,_,Z,tt,_,0,_,Z,Z,SqT.of htt,t0,mc,_,p.1,_,Z,Z,SqL.of hm2,iA,_,Z,_,Z,tt,_,1,_,Z,Z,SqT.of htt,t1,mc,_,p.2,_,Z,Z,SqL.of hm2,iB,Z,_,Z,?_⟩;rw[Zz];refine itn2 (λhe=>?_) (λhe=>?_)
   ·refine⟨mc,_,_,Z,s2,hne,hc2,?_,?_⟩
    ·rw[eG];unfold gst;rwa[if_pos (key.mp he)]
    ·rw[eG];unfold gst;rwa[if_pos (key.mp he)]
   ·have eG2:grw n.toNat ps ((ns++os).take (i+1))=G++[z]:=by rw[eG];unfold gst;rw[if_neg λe=>he (key.mpr e)]
    refine⟨_,Z,_,Z,_,Z,one,λp2 hp2=>?_⟩;have s6:=Zz4 (o:=.tup [.int z]) hp2
    refine⟨w,mc,p2,n,ps,_,true,[z],Z,(hW.same s2).same s6,hG,s6 _ _ hm2,hl,SqT.of Zz1,λy hy=>by rw[Yy2.mp hy];exact⟨z0,z1⟩,λm' H7 s7 hf hm7=>?_⟩;have s67:=s6.trans s7
    have hg7:=s67 _ _ hg2;have hc7:=s67 _ _ hc2
    have nm':m'≠gl:=by
     rcases hf with rfl|hf
     ·exact hne
     ·exact λe=>absurd ((s6 _ _ hg2).symm.trans (e▸hf)) B
    refine⟨_,Z,.inl ⟨Z,_,SqL.of hg7⟩,_,Z,gl,_,_,Z,Z,hg7,Zp (by rw[Zz8];lia),?_⟩;refine⟨m',_,_,Z,Zu hgf<|s2.trans s67,nm',?_,?_,?_⟩
    ·rwa[Zd ncg]
    ·rw[Zd nm',hm7,eG2,Za1,ZY5];rfl
    ·rw[Zz1,eG2,Zr1]
  ·rintro σ H2 ⟨mc,v5,v6,rfl,s2,hne,hc2,hm2,hg2⟩;rw[Zz8,YC]at hg2;have hgl14:=Zw8 hG hI
   generalize grw n.toNat ps (ns++os)=G at *;refine⟨_,Z,_,Z,a,_,Z,(hS.same s2).or,_,Z,gl,_,Z,SqL.of hg2,λr1 hr1=>?_⟩;have ec:cutV (IL G) none (some ((IL ns).length:Int))=IL (G.take ns.length):=by rw[ZY6 O,YA,Zz8,Zt8]
   rw[ec];have s3:=Zz4 (o:=.lst<|IL<|G.take ns.length) hr1
   refine⟨_,Z,a,_,Z,(hS.same<|s2.trans s3).or,λr2 hr2=>?_⟩;have s4:=Zz4 (o:=.lst<|IL ns) hr2
   refine⟨1,_,r1,r2,Z,Z,J,Zh10 (SqL.of<|s4 _ _ Zz1)<|SqL.of Zz1,_,Z,?_⟩;have s24:=s2.trans (s3.trans s4)
   refine itn2 (λhe=>?_) (λhe=>?_)
   ·obtain⟨dx,tl,xs,h1,h2,h3⟩:=hW.same s24;have hg4:=s4 _ _ (s3 _ _ hg2)
    refine⟨_,Z,gl,_,Z,.inl<|SqL.of hg4,_,Z,w,_,dx,_,_,Z,h1,T.cl_Web,T.n_Web_places,Zz71 _ _,_,_,Z,Z,_,_,Z,Z,_,Z,?_⟩;rw[Zz8];refine itd2 (λhc=>?_) (λhc=>?_)
    ·exact q0 (.inr hc) _ s24
    ·refine⟨_,Z,gl,G,Z,SqL.of hg4,O,λms hp1 hp2 l hl=>?_⟩;have s5:=Zz4 (o:=.lst<|IL ms) hl
     refine⟨l,_,Z,.inl ⟨SqL.of Zz1,λr hr=>?_⟩⟩;exact q1 he hc r ms _ hp1 hp2 ((s24.trans s5).trans (Zz4 hr)) ((s24.trans s5).free hr) Zz1
   ·refine iteT ?_;exact q0 (.inl he) _ s24
noncomputable def spZq(K:PySem.W.Frag)(C XU:Addr):Sp:=λvs H Q E=>∃(w:Addr)(n:Int)(ps:List (Int×Int)),vs=[.ref w]/\WebAt C H w n ps/\ZL n ps/\
 (¬((grd n.toNat ps ps.length).length:Int)<n-1->∀(r:Addr)(H':Hp),Same H H'->H' r=some (.tup<|IL<|grd n.toNat ps ps.length)->Q (.ref r) H')/\
 (((grd n.toNat ps ps.length).length:Int)<n-1->∀H':Hp,Same H H'->E (.ref XU) none H')
theorem okZq(T:Txt K mg t):OkQ P w base (CXW P w) T.q_least_tree 7 (spZq K t.A_Web t.A_Parted):=by
 refine T.q_least_tree.okX ["web"] S (λvs H Q E h=>?_) (λcdv A outer s H vs Q E hr h=>?_)
 ·obtain⟨w,n,ps,rfl,_⟩:=h;rfl
 ·obtain⟨w,n,ps,rfl,hW,hG,q,q1⟩:=h;refine⟨_,(Zz2 (ZQ<|Zz6 (okZi T) hr T.q_refuse_parted pxs<|Zz0 (pv 0) Zz3)
   (Zz5<|Zk<|Zz6 (okZp T) hr T.q_grown_tree ZB<|Zz0 (pv 0)<|Zz0 (Zb1 Zz3)<|Zz0 (Zz6 (okZa T) hr T.q_all_ties ZB<|Zz0 (pv 0) Zz3) Zz3)),?_⟩
  have hall:∀z∈rgL ps.length,0<=z/\z<(ps.length:Int):=λz hz=>rgL_mem.mp hz;have eg:grw n.toNat ps (rgL ps.length)=grd n.toNat ps ps.length:=ZI4 _ _ _
  have hj:=ZB6 hG;refine⟨_,Z,w,n,ps,Z,hW,hG,λhJ H1 s1=>?_,λhJ H1 s1=>q1 (by rw[hj]at hJ;omega) H1 s1⟩;have hf:=hj.mp hJ
  refine⟨_,Z,Yr _,λr0 hr0=>?_⟩;have s0:=Zz4 (o:=.tup []) hr0
  have s10:=s1.trans s0;refine⟨_,Z,w,n,ps,Z,hW.same s10,by have:=hG.2.2.1;lia,λr2 H2 s2 hr20 hr2=>?_⟩;refine⟨w,r0,r2,n,ps,true,true,[],rgL ps.length,Z,(hW.same s10).same s2,hG,SqT.of<|s2 _ _ Zz1,SqT.of hr2,Yr _,by rw[ZS5];have:=hG.2.2.1;omega,hall,λhx H3 s3=>?_,λ_ _ r3 ms H3 hp1 hp2 s3 hr30 hr3=>?_⟩
  ·rw[Y1L,eg]at hx;rcases hx with hx|hx
   ·exact absurd Z hx
   ·exact absurd hx hf
  ·rw[Y1L,eg]at hp1;have e:ms=grd n.toNat ps ps.length:=Zz95 hp1 hp2 ((ZK4 _).imp λh=>O)
   rw[e]at hr3;exact q hf r3 H3 (s10.trans<|s2.trans s3) hr3
noncomputable def spZr(K:PySem.W.Frag)(C N:Addr):Sp:=λvs H Q E=>∃(w:Addr)(n:Int)(ps:List (Int×Int))(z:Int),vs=[.ref w,.int z]/\WebAt C H w n ps/\ZL n ps/\-(10^70)<z/\z<10^70/\(∀c:Nat,TC n ps c->0<=z->(c:Int)<=z)/\∀H':Hp,Same H H'->E (.ref N) none H'
theorem scZr:FnScope ["web","number","inside","outside","tie","size"] ["web","number"] (Zz9 (top 52)):=Zf1 S
theorem okZr(T:Txt K mg t):OkQ P w base (CXW P w) T.q_tree_at 9 (spZr K t.A_Web t.A_NoSuch):=by
 refine T.q_tree_at.okX ["web","number","inside","outside","tie","size"] S (λvs H Q E h=>?_) (λcdv A outer s H vs Q E hr h=>?_)
 ·obtain⟨w,n,ps,z,rfl,_⟩:=h;rfl
 ·obtain⟨w,n,ps,z,rfl,hW,hG,z0,z1,hno,q⟩:=h;refine⟨_,(Zz2 (Zz61 (ZN2<|ZO2 Ze8 Zr7 Zz7 (pv 1)<|Zz6 (okZl T) hr T.q_tree_count ZB<|Zz0 (pv 0) Zz3)
   (Zz5<|Zj1 T.x_NoSuch T.c_NoSuch<|Zz0 (Zz56<|Zq9<|Zs9 (pv 1) Zr9) Zz3)
   Zm)
   (Zz2 (Zg (i:=2) scZr.nd Z (Or.inl Z)<|Zb1 Zz3)
   (Zz2 (Zg (i:=3) scZr.nd Z (Or.inl Z)<|Zb1 Zz3)
   (Zz2 (ZX Y2c Z (Zz06 K<|Zz6 (okZa T) hr T.q_all_ties ZB<|Zz0 (pv 0) Zz3) (Zf (i:=4) scZr.nd Z<|Or.inl Z)
   (Zz2 (Zg (i:=5) scZr.nd Z (Or.inl Z)<|Zz6 (okZm T) hr T.q_part_count ZB<|Zz0 (pv 0)<|Zz0 (Zn (Zq3 K) (pv 2)<|Zb1<|Zz0 (pv 4) Zz3)<|Zz0 (pv 3) Zz3)
   (Zz5 (Zz61 (Zi Zr7 (pv 1) (pv 5)<|Zq _)
   (Zz5<|Zg (i:=2) scZr.nd Z (Or.inl Z)<|Zn (Zq3 K) (pv 2)<|Zb1<|Zz0 (pv 4) Zz3)
   (Zz2 (Zz813 (i:=1) scZr.nd Z (Or.inl Z) (pv 5) ZZ9)
   (Zz5<|Zg (i:=3) scZr.nd Z (Or.inl Z)<|Zn (Zq3 K) (pv 3)<|Zb1<|Zz0 (pv 4) Zz3))))))
   (Zz5<|Zk<|pv 2))))),?_⟩
  have one:1<=sizeLine:=J;refine⟨_,Z,_,_,Z,Z,_,Z,?_⟩;refine itd2 (λzp=>?_) λzn=>?_;rotate_left
  ·refine⟨_,Z,?_⟩;refine iteT ?_;exact⟨_,Z,z,Z,z0,z1,λx=>⟨one,q H<|Same.refl _⟩⟩
  refine⟨_,Z,w,n,ps,Z,hW,hG,λc H1 hc s1=>⟨_,_,Z,Z,_,Z,?_⟩⟩;refine itn2 (λzc=>?_) (λzc=>?_)
  ·have:=hno c hc zp
   lia
  ·exact⟨_,Z,z,Z,z0,z1,λx=>⟨one,q H1 s1⟩⟩
noncomputable def spZs:Sp:=λ_ _ _ _=>False
theorem okZs(T:Txt K mg t):OkQ P w base CX0 T.q_lesser_ties 1 spZs:=by
 refine T.q_lesser_ties.ok ["ties","bound"] S (λvs H Q E h=>?_) (λcdv A outer s H vs Q E hr h=>?_)
 ·exact False.elim h
 ·exact False.elim h
noncomputable def spZt(K:PySem.W.Frag)(C XU:Addr):Sp:=λvs H Q E=>∃(w a:Addr)(n:Int)(ps:List (Int×Int))(kd:Bool)(ns:List Int),vs=[.ref w,.ref a]/\WebAt C H w n ps/\ZL n ps/\SqK kd K H a (IL ns)/\¬Zo n ps ns/\∀H':Hp,Same H H'->E (.ref XU) none H'
theorem scZt:FnScope ["web","tree","beside"] ["web","tree"] (Zz9 (top 54)):=Zf1 S
theorem okZt(T:Txt K mg t):OkQ P w base (CXW P w) T.q_number_of 8 (spZt K t.A_Web t.A_NoTree):=by
 refine T.q_number_of.okX ["web","tree","beside"] S (λvs H Q E h=>?_) (λcdv A outer s H vs Q E hr h=>?_)
 ·obtain⟨w,a,n,ps,kd,ns,rfl,_⟩:=h;rfl
 ·obtain⟨w,a,n,ps,kd,ns,rfl,hW,hG,hS,hno,q⟩:=h;refine⟨_,(Zz2 (ZQ<|Zz6 (okZo T) hr T.q_refuse_no_tree pxs<|Zz0 (pv 0)<|Zz0 (pv 1) Zz3)
   (Zz2 (Zg (i:=2) scZt.nd Z (Or.inr Z)<|Zz6 (okZb T) hr T.q_ties_beside ZB<|Zz0 (pv 0)<|Zz0 (pv 1) Zz3)
   (Zz5<|Zk<|Zc (Zz83 K Z) XS T.n_sum Boot.«sum»<|Zz0 (Zs5 Z (sc0:=Zz9<|top 54) (N0:=["web","tree","beside"]) (N':=["tie","web","tree","beside"]) (o:=1) (fr:=[0,1,2]) ⟨Z,S,S,S,Z,S⟩ (Zz06 K<|pv 2) (ZE J) (λ_ _ _ _=>(Zf (i:=0) (show List.Nodup (["tie","web","tree","beside"]:List Str) by decide +kernel) Z<|Or.inl Z)) (λ_ _ _ _=>ZP) λ_ _ _ _=>(Zz6 (okZm T) hr T.q_part_count ZB<|Zz0 (pv 1)<|Zz0 (Zn (Zq3 K) (Zz6 (okZs T) hr T.q_lesser_ties ZB<|Zz0 (pv 2)<|Zz0 (pv 0) Zz3)<|Zb1<|Zz0 (pv 0) Zz3)<|Zz0 (Zz6 (okZs T) hr T.q_lesser_ties ZB<|Zz0 (pv 3)<|Zz0 (pv 0) Zz3) Zz3)) Zz3))),?_⟩
  exact⟨_,Z,_,Z,w,a,n,ps,kd,ns,Z,hW,hG,hS,λhT=>absurd hT hno,λ_=>q⟩
noncomputable def spZu(K:PySem.W.Frag)(C R:Addr):Sp:=λvs H Q E=>∃(w b:Addr)(n:Int)(ps:List (Int×Int))(ls:List Int),vs=[.ref w,.ref b]/\WebAt C H w n ps/\ZL n ps/\SqL K H b (IL ls)/\(ls.length=ps.length->∀(w':Addr)(H':Hp),Same H H'->WebAt C H' w' n (cwT n.toNat ps ls)->Q (.ref w') H')/\(ls.length≠ps.length->E (.ref R) none H)
theorem Zv13{xs:List V}{i:Int}(h0:0<=i)(h1:i<(xs.length:Int)):ixN xs.length i=some i.toNat:=by unfold ixN;rw[if_pos h0,if_pos XT]
theorem scZu:FnScope ["web","lengths","made","marks","length","level","merged","spots","tie","ends"] ["web","lengths"] (Zz9 (top 58)):=Zf1 S
theorem okZu(T:Txt K mg t):OkQ P w base (CXW P w) T.q_cheapest_web 4 (spZu K t.A_Web t.A_BadRow):=by
 refine T.q_cheapest_web.okX ["web","lengths","made","marks","length","level","merged","spots","tie","ends"] S (λvs H Q E h=>?_) (λcdv A outer s H vs Q E hr h=>?_)
 ·obtain⟨w,b,n,ps,ls,rfl,_⟩:=h;rfl
 ·obtain⟨w,b,n,ps,ls,rfl,hW,hG,hS,q,qe⟩:=h;refine⟨_,(Zz2 (ZQ<|Zz6 (okZ9 T) hr T.q_refuse_bad_row pxs<|Zz0 (pv 0)<|Zz0 (pv 1) Zz3)
   (Zz2 (Zg (i:=2) scZu.nd Z (Or.inl Z)<|Zj (Zz51 K) XS T.n_list Boot.«list»<|Zz0 (ZK K (pv 0) Z) Zz3)
   (Zz2 (Zg (i:=3) scZu.nd Z (Or.inl Z)<|Zz6 (okZf T) hr T.q_piece_marks ZB<|Zz0 (pv 0)<|Zz0 (Zb1 Zz3) Zz3)
   (Zz2 (ZX Y2c Z (ZS K<|ZR3 K Z Z T.n_sorted Z T.n_set<|Zz0 (pv 1) Zz3) (Zf (i:=4) scZu.nd Z<|Or.inr Z)
   (Zz2 (Zo7 (i:=5) Z scZu.nd Z Z (sc0:=Zz9<|top 58) (N0:=["web","lengths","made","marks","length","level","merged","spots","tie","ends"]) (N':=["tie","own","length"]) (o:=2) (fr:=[4]) ⟨Z,S,S,S,Z,S⟩ (ZR2 K Z T.n_enumerate<|Zz0 (pv 1) Zz3) (ZA4<|Zw1 J<|Zw1 J ZB4) (λ_ _ _ _=>(Zv1 (n:=2) K Z<|Zv (Zf (i:=0) (show List.Nodup (["tie","own","length"]:List Str) by decide +kernel) Z<|Or.inl Z)<|Zv (Zf (i:=1) (show List.Nodup (["tie","own","length"]:List Str) by decide +kernel) Z<|Or.inl Z) Zu1)) (λ_ _ _ _=>(ZX5<|Zi Zz32 (pv 1) (pv 2)<|Zq _)) λ_ _ _ _=>(pv 0))
   (Zz2 (Zg (i:=6) scZu.nd Z (Or.inl Z)<|Zz6 (okZe T) hr T.q_merged_marks ZB<|Zz0 (pv 0)<|Zz0 (pv 3)<|Zz0 (pv 5) Zz3)
   (Zz2 (Zo7 (i:=7) Z scZu.nd Z Z (sc0:=Zz9<|top 58) (N0:=["web","lengths","made","marks","length","level","merged","spots","tie","ends"]) (N':=["mark","later"]) (o:=2) (fr:=[]) ⟨Z,S,S,S,Z,S⟩ (Zt9 K Z T.n_zip<|Zz0 (pv 3)<|Zz0 (pv 6) Zz3) (ZA4<|Zw1 J<|Zw1 J ZB4) (λ_ _ _ _=>(Zv1 (n:=2) K Z<|Zv (Zf (i:=0) (show List.Nodup (["mark","later"]:List Str) by decide +kernel) Z<|Or.inl Z)<|Zv (Zf (i:=1) (show List.Nodup (["mark","later"]:List Str) by decide +kernel) Z<|Or.inl Z) Zu1)) (λ_ _ _ _=>ZP) λ_ _ _ _=>(Zj2 (Zi Zz32 (pv 0) (pv 1)<|Zq _) Zz7<|pv 0))
   (Zz2 (ZX Y2c Z (ZS K<|pv 5) (Zf (i:=8) scZu.nd Z<|Or.inl Z)
   (Zz2 (Zg (i:=9) scZu.nd Z (Or.inl Z)<|ZC (Zb K) (ZK K (pv 0) Z) (pv 8) λ_ _=>rfl)
   (Zz5<|ZP3 (Zb1<|Zz0 (ZC (Zb K) (pv 7) (ZC (ZN K) (pv 9) Zz7 λ_ _=>rfl) λ_ _=>rfl)<|Zz0 (ZC (Zb K) (pv 7) (ZC (ZN K) (pv 9) Zz7 λ_ _=>rfl) λ_ _=>rfl) Zz3)<|Zq7 (pv 2) (pv 8) Zt1)))
   (Zz5<|Zg (i:=3) scZu.nd Z (Or.inl Z)<|pv 6))))))
   (Zz5<|Zk<|Zz26 T.k_Web (okZ8 T) (hr.mono J) Z T.c_Web T.bZ8 .nil ZB<|Zz0 (ZK K (pv 0) Z)<|Zz0 (pv 2) Zz3))))),?_⟩
  obtain⟨g1,g2,g3,g4⟩:=id hG;obtain⟨dx,tl,xs,h1,h2,h3⟩:=id hW;have hxl:=h3.1
  refine⟨_,Z,_,Z,w,b,n,ps,false,ls,Z,hW,hS,λhl=>?_,qe⟩;refine⟨_,Z,w,_,dx,_,_,Z,h1,T.cl_Web,T.n_Web_ties,ZF1 _ _,tl,xs,Z,.inl<|SqL.of h2,λmd hmd=>?_⟩;have u1:=Zz4 (o:=.lst xs) hmd
  have m1:=Zz1 (H:=H) (a:=md) (o:=.lst xs);generalize upd H md (.lst xs)=H1 at *;refine nm ?_;dsimp only;refine⟨_,Z,Yr _,λt0 ht0=>?_⟩;have u2:=Zz4 (o:=.tup []) ht0
  refine⟨w,t0,n,ps,[],Z,hW.same<|u1.trans u2,hG,SqT.of Zz1,λz hz=>(by cases hz),λm0 H2 s2 hm0 hm2=>?_⟩;have u3:=u2.trans s2
  have md0:m0≠md:=YU (Ze (u2 _ _ m1) hm0);have m2:=u3 _ _ m1
  have t2:=u1.trans u3;have hmd0:H md=none:=hmd
  refine nm ?_;dsimp only;refine⟨_,Z,b,ls,Z,t2.seq hS,O,λLs hLa hLm lA hlA=>?_⟩;have u4:=Zz4 (o:=.lst<|IL Ls) hlA
  have lmd:lA≠md:=YU (Ze m2 hlA);have hl4:=Zz1 (H:=H2) (a:=lA) (o:=.lst<|IL Ls)
  have m4:=u4 _ _ m2;have hm4:=u4 _ _ hm2
  have t4:=t2.trans u4;show ∃_,_
  refine⟨lA,Z,⟨_,SqL.of hl4⟩,?_⟩;generalize upd H2 lA (.lst<|IL Ls)=H4 at *;refine Zr2 (K:=K) (a:=lA) (xs:=IL Ls) (λj σ H5=>∃(m:Addr)(XW:List Int)(ys:List V)(v4 v5 v6 v7 v8 v9:Option V),σ=[some (.ref w),some<|.ref b,some<|.ref md,some<|.ref m,v4,v5,v6,v7,v8,v9]/\Same H H5/\m≠md/\H5 m=some (.lst<|IL<|pms n.toNat<|Za ps XW)/\(∀z,z∈XW↔(0<=z/\z<(ps.length:Int))/\lnz ls z∈Ls.take j)/\H5 md=some (.lst ys)/\PairsV H5 ys (mdT n.toNat ps ls λi=>ls.getD i 0∈Ls.take j)/\H5 lA=some (.lst<|IL Ls))
   ⟨m0,[],xs,none,none,none,none,none,none,Z,t4,md0,hm4,λz=>⟨λh=>(by cases h),λh=>(by cases h.2)⟩,m4,(by rw[ZL9 λi _ h=>(by cases h)];exact h3.same t4),hl4⟩ (λj σ H5 _ h=>by obtain⟨_,_,_,_,_,_,_,_,_,_,_,_,_,_,_,_,e⟩:=h;exact SqL.of e) ?_ ?_
  ·rintro j v σ H5 hj ⟨m,XW,ys,v4,v5,v6,v7,v8,v9,rfl,s5,mmd,hm5,hSm,hy5,hY5,hl5⟩;obtain⟨x,rfl,hx⟩:=Zy1 hj;refine nm ?_;dsimp only;refine⟨_,Z,b,Z,⟨_,s5.seq hS⟩,Zm8 (K:=K) (a:=b) (xs:=IL ls) (λi zs H6=>Same H5 H6/\zs=IL (lvl ls x i)) ⟨Same.refl _,Z⟩ (Zp<|by rw[Zz8];lia) (λi zs H6 hi zz=>by obtain⟨e,ez⟩:=zz;exact⟨(s5.trans e).seq hS,by rw[ez,Zz8];exact(Zj8 ls x i).len⟩) ?_ ?_⟩
   ·rintro i v zs H6 pt hpt hi ⟨s6,rfl⟩ SS hSS;obtain⟨y,rfl,hy⟩:=Zy1 hi;have s7:=Zz4 (o:=.tup [.int i,.int y]) hpt
    refine⟨pt,_,Z,SqT.of Zz1,Z,_,_,Z,_,_,Z,Z,?_⟩;have s67:=s6.trans s7
    have ey:ls.getD i 0=y:=ZR1 hy;refine⟨_,Z,_,Z,Z,_,Z,?_⟩;rw[Zz];refine itd2 (λhe=>?_) (λhe=>?_)
    ·refine⟨_,Z,hSS _ _ ⟨s67,?_⟩⟩;rw[Zm6,if_pos (ey.trans he)];exact(Zr1 ..).symm
    ·refine hSS _ _ ⟨s67,?_⟩;rw[Zm6,if_neg λh=>he<|ey.symm.trans h,Yy04]
   rintro zs H6 ⟨s6,rfl⟩ lv hlv;rw[Zz8,hl];have s7:=Zz4 (o:=.lst<|IL<|lvl ls x ps.length) hlv
   have hv7:=Zz1 (H:=H6) (a:=lv) (o:=.lst<|IL<|lvl ls x ps.length);have hy6:=s6 _ _ hy5
   have lvmd:lv≠md:=YU (Ze hy6 hlv);have s57:=s6.trans s7
   generalize upd H6 lv (.lst<|IL<|lvl ls x ps.length)=H7 at *;refine nm ?_;dsimp only;obtain⟨up1,up2,up3⟩:=ZM9 hG hl hLa hLm hx hSm;have at1:=ZN9 hG hl hLa hLm hx hSm
   refine⟨_,Z,_,Z,_,Z,w,m,lv,n,ps,_,false,lvl ls x ps.length,Z,(hW.same s5).same s57,hG,s57 _ _ hm5,Zt _ _,SqL.of hv7,(Zj8 ls x ps.length).all,λm' H8 s8 hm' hm8=>?_⟩;rw[up1]at hm8;have hy7:=s57 _ _ hy5
   have hy8:=s8 _ _ hy7;have m'md:m'≠md:=by
    rcases hm' with e|e
    ·rwa[e]
    ·exact YU (Ze hy7 e)
   have s58:=s57.trans s8;have hm58:=s58 _ _ hm5
   refine nm ?_;dsimp only;refine⟨_,Z,_,Z,m,m',Z,⟨_,_,SqL.of hm58,SqL.of hm8⟩,ZI11 (K:=K) (a:=m) (b:=m') (xs:=IL<|pms n.toNat<|Za ps XW) (ys:=IL<|pms n.toNat<|Za ps<|XW++lvl ls x ps.length) (λi zs H9=>Same H8 H9/\i<=n.toNat/\zs=IL ((List.range i).map (spt n.toNat ps ls x))) ⟨Same.refl _,Yr _,Z⟩ (by rw[Zz8,Zz8,Zt,Zt]) (Zp<|by rw[Zz8,Zt];lia)
    (λi zs H9 hi zz=>by obtain⟨e,hi2,ez⟩:=zz;exact⟨SqL.of<|e _ _ hm58,SqL.of<|e _ _ hm8,by rw[ez,Zz8,Yy9,YK];exact Yy6 _⟩) ?_ ?_⟩
   ·rintro i u v zs H9 pt hpt hu hv ⟨s9,hil,rfl⟩ SS hSS;obtain⟨a1,rfl,ha1⟩:=Zy1 hu;obtain⟨b1,rfl,hb1⟩:=Zy1 hv;have hil':i<n.toNat:=by have:=(Yy4.mp ha1).1;rwa[Zt]at this
    have s10:=Zz4 (o:=.tup [.int a1,.int b1]) hpt;refine⟨pt,_,Z,SqT.of Zz1,Z,_,_,Z,_,_,Z,Z,?_⟩;have ea:mk (mA n.toNat ps ls x) i=a1:=by rw[<-at1];unfold mk;exact ZR1 ha1
    have eb:mk (mB n.toNat ps ls x) i=b1:=by rw[<-up2];unfold mk;exact ZR1 hb1
    have es:∀y:Int,(if a1=b1 then 0 else a1)=y->IL ((List.range i).map (spt n.toNat ps ls x))++[V.int y]=IL ((List.range<|i+1).map (spt n.toNat ps ls x)):=λy hy=>by
     rw[Y0q,Yz];show _=IL (_++[spt n.toNat ps ls x i])
     unfold spt;rw[ea,eb,hy];exact(Zr1 ..).symm
    refine⟨_,Z,_,Z,Z,_,Z,?_⟩;rw[Zz];refine itd2 (λhe=>?_) (λhe=>?_)
    ·exact hSS _ _ ⟨s9.trans s10,hil',es 0<|if_pos he⟩
    ·exact⟨_,Z,hSS _ _ ⟨s9.trans s10,hil',es a1<|if_neg he⟩⟩
   rintro zs H9 ⟨s9,_,rfl⟩ sp hsp;rw[Zz8,Zt];have s10:=Zz4 (o:=.lst<|IL<|(List.range n.toNat).map (spt n.toNat ps ls x)) hsp
   have hsp10:=Zz1 (H:=H9) (a:=sp) (o:=.lst<|IL<|(List.range n.toNat).map (spt n.toNat ps ls x));have hy9:=s9 _ _ hy8
   have spmd:sp≠md:=YU (Ze hy9 hsp);have s510:=s58.trans (s9.trans s10)
   have s810:=s9.trans s10;generalize upd H9 sp (.lst<|IL<|(List.range n.toNat).map (spt n.toNat ps ls x))=H10 at *;have hm10:=s810 _ _ hm8
   have hv10:=s810 _ _ (s8 _ _ hv7);have hy10:=s810 _ _ hy8
   have hY10:=hY5.same s510;have hl10:=s510 _ _ hl5
   have t10:=s5.trans s510;refine nm ?_;dsimp only;refine⟨_,Z,lv,Z,⟨_,SqL.of hv10⟩,Zr2 (K:=K) (a:=lv) (xs:=IL<|lvl ls x ps.length) (λk σ H11=>∃(ys:List V)(v8 v9:Option V),σ=[some (.ref w),some<|.ref b,some<|.ref md,some<|.ref m,some<|.int x,some<|.ref lv,some<|.ref m',some<|.ref sp,v8,v9]/\(∀a o,a≠md->H10 a=some o->H11 a=some o)/\H11 md=some (.lst ys)/\PairsV H11 ys (mdT n.toNat ps ls λi=>ls.getD i 0∈Ls.take j\/(i:Int)∈(lvl ls x ps.length).take k)) ⟨ys,_,_,Z,λ_ _ _ h=>h,hy10,(by rwa[ZD4 (q:=λi=>ls.getD i 0∈Ls.take j) λi _=>⟨λh=>h.elim id λh=>(by cases h),.inl⟩])⟩ (λk σ H11 _ zz=>by obtain⟨_,_,_,_,e,_⟩:=zz;exact SqL.of<|e _ _ lvmd hv10) ?_ ?_⟩
   ·rintro k v σ H11 hk ⟨ys,v8,v9,rfl,kp,hy11,hY11⟩;obtain⟨z,rfl,hz⟩:=Zy1 hk;obtain⟨zb,zl⟩:=lvl_mem.mp (Yy8 hz);have t11:Same H H11:=λa o e=>kp a o (Ze e hmd0) (t10 a o e)
    obtain⟨p,hp⟩:∃p,ps[z.toNat]?=some p:=⟨_,Yy0 O⟩;obtain⟨vv,hvv,tt,rfl,htt⟩:=h3.2 z.toNat p hp;obtain⟨e1,e2,e3,e4⟩:=g4 p (Yy8 hp);have ed:ps.getD z.toNat (0,0)=p:=ZR1 hp
    have hsp11:=kp _ _ spmd hsp10;have ht11:=t11 _ _ htt
    refine nm ?_;dsimp only;refine⟨_,Z,w,_,dx,_,_,Z,t11 _ _ h1,T.cl_Web,T.n_Web_ties,ZF1 _ _,_,Z,tl,xs,z,.ref tt,Z,Z,SqL.of<|t11 _ _ h2,Zw (n:=z.toNat) O hvv,?_⟩;refine nm ?_;dsimp only;have at_:∀y:Int,0<=y->y<n->atI (IL<|(List.range n.toNat).map (spt n.toNat ps ls x)) y=some (.int<|spt n.toNat ps ls x y.toNat):=λy y0 y1=>Zw (n:=y.toNat) O (by rw[Yg,Yg,Y0G XR];rfl)
    have c0:atI ([.int p.1,.int p.2]:List V) 0=some (.int p.1):=rfl;have c1:atI ([.int p.1,.int p.2]:List V) 1=some (.int p.2):=rfl
    refine⟨_,Z,_,Z,tt,_,0,_,Z,Z,SqT.of ht11,c0,sp,_,p.1,_,Z,Z,SqL.of hsp11,at_ p.1 e1 e2,_,Z,_,Z,tt,_,1,_,Z,Z,SqT.of ht11,c1,sp,_,p.2,_,Z,Z,SqL.of hsp11,at_ p.2 e3 e4,(by show 2<=sizeLine;decide),λtA htA=>?_⟩;have s12:=Zz4 (o:=.tup [.int (spt n.toNat ps ls x p.1.toNat),.int (spt n.toNat ps ls x p.2.toNat)]) htA
    have hy12:=s12 _ _ hy11;have hA12:=Zz1 (H:=H11) (a:=tA) (o:=.tup [.int (spt n.toNat ps ls x p.1.toNat),.int (spt n.toNat ps ls x p.2.toNat)])
    have tmd:tA≠md:=YU (Ze hy11 htA);have hY12:=hY11.same s12
    have yl:ys.length=ps.length:=by rw[hY12.1,ZA11]
    refine⟨_,Z,_,Z,md,_,_,z.toNat,Z,Z,hy12,Zv13 zb.1 O,?_⟩;refine⟨ys.set z.toNat<|.ref tA,some<|.int z,some<|.ref tt,Z,λa o ha e=>?_,Zz1,?_⟩
    ·rw[Zd ha];exact s12 _ _ (kp a o ha e)
    ·have e5:(spt n.toNat ps ls x p.1.toNat,spt n.toNat ps ls x p.2.toNat)=cwP n.toNat ps ls z.toNat:=by unfold cwP;rw[ed,show ls.getD z.toNat 0=x from zl]
     have hP:=(hY12.mut (l:=md) (zs:=ys.set z.toNat<|.ref tA) hy12).set z.toNat (v:=.ref tA) (p:=(spt n.toNat ps ls x p.1.toNat,spt n.toNat ps ls x p.2.toNat)) ⟨tA,Z,by rwa[Zd tmd]⟩;rw[e5,Yz11 (q:=λi=>ls.getD i 0∈Ls.take j\/(i:Int)∈(lvl ls x ps.length).take (k+1)) λi _=>?_]at hP
     ·exact hP
     ·rw[YD,hz];show _\/(i:Int)∈(lvl ls x ps.length).take k++[z]↔_
      rw[Yj,Yy2,or_assoc]
      have:(i:Int)=z↔i=z.toNat:=XR
      rw[this]
   rintro σ H11 ⟨ys',v8,v9,rfl,kp,hy11,hY11⟩;rw[Zz8,YC]at hY11;have t11:Same H H11:=λa o e=>kp a o (Ze e hmd0) (t10 a o e)
   refine⟨_,Z,?_⟩;refine nm ?_;refine⟨m',XW++lvl ls x ps.length,ys',_,_,_,_,_,_,Z,t11,m'md,kp _ _ m'md hm10,up3,hy11,?_,kp _ _ lmd hl10⟩;rw[ZD4 (q:=λi=>ls.getD i 0∈Ls.take (j+1)) λi hi=>?_]at hY11
   ·exact hY11
   ·rw[YD,hx];show _↔ls.getD i 0∈Ls.take j++[x]
    rw[Yj,Yy2,lvl_mem];have e:lnz ls (i:Int)=ls.getD i 0:=by unfold lnz;rw[YA]
    rw[e];constructor
    ·rintro(h|h)
     ·exact .inl h
     ·exact .inr h.2
    ·rintro(h|h)
     ·exact .inl h
     ·exact .inr ⟨⟨O,O⟩,h⟩
  rintro σ H5 ⟨m,XW,ys,v4,v5,v6,v7,v8,v9,rfl,s5,mmd,hm5,hSm,hy5,hY5,hl5⟩;rw[Zz8,YC,ZB11 λi hi=>(hLm _).mpr (by rw[Yy7,Yy0 (show i<ls.length by lia)];exact Y0Z _)]at hY5;refine⟨_,Z,w,_,dx,_,_,Z,s5 _ _ h1,T.cl_Web,T.n_Web_places,Zz71 _ _,_,Z,λw2 dx2 nx2 ndx2 nex2=>?_⟩;have v2:Same H5 (upd (upd H5 dx2<|.own w2) w2<|.ins t.A_Web dx2 []):=ZA (Zz4 ndx2) (by rwa[Zd (YU nex2)])
  refine⟨w2,dx2,n,md,false,ys,_,Z,Zz1,λo=>(Zu nx2 v2).seq (SqL.of hy5),hY5.same v2,ZK8 hG hl,λH6 hW6 k6=>⟨Z,?_⟩⟩;have v3:Same H5 H6:=λb o e=>k6 b o (v2 b o e) (Ze e nx2)
  exact q hl w2 H6 (s5.trans v3) hW6
noncomputable def spZv(K:PySem.W.Frag)(C R XU:Addr):Sp:=λvs H Q E=>∃(w b:Addr)(n:Int)(ps:List (Int×Int))(ls:List Int),vs=[.ref w,.ref b]/\WebAt C H w n ps/\ZL n ps/\SqL K H b (IL ls)/\
 (ls.length=ps.length->(∃U,Zo n (cwT n.toNat ps ls) U)->∀(v:V)(H':Hp),Same H H'->Q v H')/\
 (ls.length=ps.length->(∀W,¬Zo n (cwT n.toNat ps ls) W)->∀H':Hp,Same H H'->E (.ref XU) none H')/\(ls.length≠ps.length->E (.ref R) none H)
theorem okZv(T:Txt K mg t):OkQ P w base (CXW P w) T.q_cheapest_tree 8 (spZv K t.A_Web t.A_BadRow t.A_Parted):=by
 refine T.q_cheapest_tree.okX ["web","lengths"] S (λvs H Q E h=>?_) (λcdv A outer s H vs Q E hr h=>?_)
 ·obtain⟨w,b,n,ps,ls,rfl,_⟩:=h;rfl
 ·obtain⟨w,b,n,ps,ls,rfl,hW,hG,hS,q,qp,qe⟩:=h;refine⟨_,(Zz5<|Zk<|Zz6 (okZq T) hr T.q_least_tree pxs<|Zz0 (Zz6 (okZu T) hr T.q_cheapest_web pxs<|Zz0 (pv 0)<|Zz0 (pv 1) Zz3) Zz3),?_⟩;refine⟨_,Z,_,Z,w,b,n,ps,ls,Z,hW,hG,hS,λhl w2 H1 s1 hW1=>?_,qe⟩;have hC:=ZK8 hG hl
  refine⟨w2,n,_,Z,hW1,hC,λhf r H2 s2 hr=>?_,λhf H2 s2=>?_⟩
  ·exact q hl ⟨_,ZC6 hC hf⟩ _ H2 (s1.trans s2)
  ·refine qp hl (λW hV=>?_) H2 (s1.trans s2)
   have:=(Zz610 hC hV).2.1
   lia
noncomputable def spZw(N:Addr):Sp:=λvs H Q E=>∃z:Int,vs=[.int z]/\-(10^70)<z/\z<10^70/\(0<=z->Q .non H)/\(z<0->E (.ref N) none H)
theorem okZw(T:Txt K mg t):OkQ P w base (CXW P w) T.q_refuse_below_nought 1 (spZw t.A_NoSuch):=by
 refine T.q_refuse_below_nought.okX ["number"] S (λvs H Q E h=>?_) (λcdv A outer s H vs Q E hr h=>?_)
 ·obtain⟨z,rfl,_⟩:=h;rfl
 ·obtain⟨z,rfl,z0,z1,q,qe⟩:=h;refine⟨_,(Zz5 (Zz61 (Zi Zr7 (pv 0) Zz7<|Zq _)
   (Zz5<|Zj1 T.x_NoSuch T.c_NoSuch<|Zz0 (Zz56<|Zs9 (pv 0)<|Zq9 Zr9) Zz3)
   Zm)),?_⟩
  refine⟨_,Z,_,_,Z,Z,_,Z,?_⟩;refine itd2 (λh=>?_) (λh=>?_)
  ·exact⟨_,Z,z,Z,z0,z1,λx=>⟨by show 1<=sizeLine;decide,qe h⟩⟩
  ·exact q O
noncomputable def spZx:Sp:=λ_ _ _ _=>False
theorem okZx(T:Txt K mg t):OkQ P w base CX0 T.q_whole_part 1 spZx:=by
 refine T.q_whole_part.ok ["web","opened"] S (λvs H Q E h=>?_) (λcdv A outer s H vs Q E hr h=>?_)
 ·exact False.elim h
 ·exact False.elim h
noncomputable def spZy:Sp:=λ_ _ _ _=>False
theorem okZy(T:Txt K mg t):OkQ P w base CX0 T.q_trees_between 1 spZy:=by
 refine T.q_trees_between.ok ["part","size","start","stop","first","middle","trees","turned"] S (λvs H Q E h=>?_) (λcdv A outer s H vs Q E hr h=>?_)
 ·exact False.elim h
 ·exact False.elim h
noncomputable def spZz:Sp:=λ_ _ _ _=>False
theorem okZz(T:Txt K mg t):OkQ P w base CX0 T.q_number_in 1 spZz:=by
 refine T.q_number_in.ok ["part","size","tree","first","middle"] S (λvs H Q E h=>?_) (λcdv A outer s H vs Q E hr h=>?_)
 ·exact False.elim h
 ·exact False.elim h
noncomputable def spZA(K:PySem.W.Frag)(C N:Addr):Sp:=λvs H Q E=>∃w n ps num most,vs=[.ref w,.int num,.int most]/\WebAt C H w n ps/\ZL n ps/\-(10^70)<num/\num<10^70/\(∀c:Nat,TC n ps c->0<=num->(c:Int)<=num)/\
 (num<0->E (.ref N) none H)/\(0<=num->∀r H',Same H H'->H' r=some (.lst [])->Q (.ref r) H')
theorem scZA:FnScope ["web","number","most","size"] ["web","number","most"] (Zz9 (top 76)):=Zf1 S
theorem okZA(T:Txt K mg t):OkQ P w base (CXW P w) T.q_row_from 8 (spZA K t.A_Web t.A_NoSuch):=by
 refine T.q_row_from.okX ["web","number","most","size"] S (λvs H Q E h=>?_) (λcdv A outer s H vs Q E hr h=>?_)
 ·obtain⟨w,n,ps,num,most,rfl,_⟩:=h;rfl
 ·obtain⟨w,n,ps,num,most,rfl,hW,hG,n0,n1,hno,qe,q⟩:=h;refine⟨_,(Zz2 (ZQ<|Zz6 (okZw T) hr T.q_refuse_below_nought pxs<|Zz0 (pv 1) Zz3)
   (Zz2 (Zg (i:=3) scZA.nd Z (Or.inl Z)<|Zz6 (okZl T) hr T.q_tree_count ZB<|Zz0 (pv 0) Zz3)
   (Zz2 (Zz61 (Zi Zm14 (pv 1) (pv 3)<|Zq _)
   (Zz5<|Zk<|ZT Zz3)
   Zm)
   (Zz5<|Zk<|Zz6 (okZy T) hr T.q_trees_between ZB<|Zz0 (Zz6 (okZx T) hr T.q_whole_part ZB<|Zz0 (pv 0) Zz3)<|Zz0 (pv 3)<|Zz0 (pv 1)<|Zz0 (Zc (Za2 Z) XS T.n_min Boot.«min»<|Zz0 (Zn Zc1 (pv 1)<|pv 2)<|Zz0 (pv 3) Zz3) Zz3)))),?_⟩
  refine⟨_,Z,num,Z,n0,n1,λnp=>?_,qe⟩;refine⟨_,Z,w,n,ps,Z,hW,hG,λc H1 hc s1=>?_⟩;refine nm ?_;dsimp only[List.set];refine⟨_,Z,_,Z,_,_,Z,Z,_,Z,?_⟩;refine itd2 (λhge=>?_) λhlt=>absurd (hno c hc np) hlt;exact⟨Yr _,λr hr=>q np r _ (s1.trans<|Zz4 hr) Zz1⟩
noncomputable def spZB(K:PySem.W.Frag)(C N:Addr):Sp:=λvs H Q E=>∃w n ps num,vs=[.ref w,.int num]/\WebAt C H w n ps/\ZL n ps/\-(10^70)<num/\num<10^70/\(∀c:Nat,TC n ps c->0<=num->(c:Int)<=num)/\∀H',Same H H'->E (.ref N) none H'
theorem scZB:FnScope ["web","number","trees"] ["web","number"] (Zz9 (top 77)):=Zf1 S
theorem okZB(T:Txt K mg t):OkQ P w base (CXW P w) T.q_row_at 9 (spZB K t.A_Web t.A_NoSuch):=by
 refine T.q_row_at.okX ["web","number","trees"] S (λvs H Q E h=>?_) (λcdv A outer s H vs Q E hr h=>?_)
 ·obtain⟨w,n,ps,num,rfl,_⟩:=h;rfl
 ·obtain⟨w,n,ps,num,rfl,hW,hG,n0,n1,hno,qe⟩:=h;refine⟨_,(Zz2 (Zg (i:=2) scZB.nd Z (Or.inl Z)<|Zz6 (okZA T) hr T.q_row_from pxs<|Zz0 (pv 0)<|Zz0 (pv 1)<|Zz0 Zz7 Zz3)
   (Zz2 (Zz61 (Zi Zz32 (Zc (Zh K) XS T.n_len Boot.«len»<|Zz0 (pv 2) Zz3) Zz7<|Zq _)
   (Zz5<|Zj1 T.x_NoSuch T.c_NoSuch<|Zz0 (Zz56<|Zq9<|Zs9 (pv 1) Zr9) Zz3)
   Zm)
   (Zz5<|Zk<|ZC (Zb K) (pv 2) Zz7 λ_ _=>rfl))),?_⟩
  have one:1<=sizeLine:=J;refine⟨_,Z,_,Z,w,n,ps,num,1,Z,hW,hG,n0,n1,hno,λ_=>qe H<|Same.refl _,λnp r H1 s1 hr=>?_⟩;refine nm ?_;dsimp only[List.set];refine⟨_,Z,r,[],Z,.inl<|SqL.of hr,Z,_,Z,?_⟩;rw[Zz];refine itd2 (λ_=>?_) λh=>absurd Z h;exact⟨_,Z,num,Z,n0,n1,λx=>⟨one,qe H1 s1⟩⟩
noncomputable def spZC(K:PySem.W.Frag)(C XU:Addr):Sp:=λvs H Q E=>∃w a n ps kd ns,vs=[.ref w,.ref a]/\WebAt C H w n ps/\ZL n ps/\SqK kd K H a (IL ns)/\¬Zo n ps ns/\∀H',Same H H'->E (.ref XU) none H'
theorem okZC(T:Txt K mg t):OkQ P w base (CXW P w) T.q_row_number 8 (spZC K t.A_Web t.A_NoTree):=by
 refine T.q_row_number.okX ["web","tree"] S (λvs H Q E h=>?_) (λcdv A outer s H vs Q E hr h=>?_)
 ·obtain⟨w,a,n,ps,kd,ns,rfl,_⟩:=h;rfl
 ·obtain⟨w,a,n,ps,kd,ns,rfl,hW,hG,hS,hno,q⟩:=h;refine⟨_,(Zz2 (ZQ<|Zz6 (okZo T) hr T.q_refuse_no_tree pxs<|Zz0 (pv 0)<|Zz0 (pv 1) Zz3)
   (Zz5<|Zk<|Zz6 (okZz T) hr T.q_number_in ZB<|Zz0 (Zz6 (okZx T) hr T.q_whole_part ZB<|Zz0 (pv 0) Zz3)<|Zz0 (Zz6 (okZl T) hr T.q_tree_count ZB<|Zz0 (pv 0) Zz3)<|Zz0 (Zj (ZW1 K) XS T.n_tuple Boot.«tuple»<|Zz0 (pv 1) Zz3) Zz3)),?_⟩
  exact⟨_,Z,_,Z,w,a,n,ps,kd,ns,Z,hW,hG,hS,λhT=>absurd hT hno,λ_=>q⟩
noncomputable def spZD(K:PySem.W.Frag)(C XU:Addr):Sp:=λvs H Q E=>∃w a n ps kd ns,vs=[.ref w,.ref a]/\WebAt C H w n ps/\ZL n ps/\SqK kd K H a (IL ns)/\¬Zo n ps ns/\∀H',Same H H'->E (.ref XU) none H'
theorem scZD:FnScope ["web","tree","trees"] ["web","tree"] (Zz9 (top 79)):=Zf1 S
theorem okZD(T:Txt K mg t):OkQ P w base (CXW P w) T.q_row_next 9 (spZD K t.A_Web t.A_NoTree):=by
 refine T.q_row_next.okX ["web","tree","trees"] S (λvs H Q E h=>?_) (λcdv A outer s H vs Q E hr h=>?_)
 ·obtain⟨w,a,n,ps,kd,ns,rfl,_⟩:=h;rfl
 ·obtain⟨w,a,n,ps,kd,ns,rfl,hW,hG,hS,hno,q⟩:=h;refine⟨_,(Zz2 (Zg (i:=2) scZD.nd Z (Or.inl Z)<|Zz6 (okZA T) hr T.q_row_from pxs<|Zz0 (pv 0)<|Zz0 (Zn Zc1 (Zz6 (okZC T) hr T.q_row_number pxs<|Zz0 (pv 0)<|Zz0 (pv 1) Zz3) Zz7)<|Zz0 Zz7 Zz3)
   (Zz5<|Zk<|Zj2 (Zi Zz32 (Zc (Zh K) XS T.n_len Boot.«len»<|Zz0 (pv 2) Zz3) Zz7<|Zq _) Zz16<|ZC (Zb K) (pv 2) Zz7 λ_ _=>rfl)),?_⟩
  exact⟨_,Z,_,Z,_,Z,w,a,n,ps,kd,ns,Z,hW,hG,hS,hno,q⟩
noncomputable def spZE:Sp:=λ_ _ _ _=>False
theorem okZE(T:Txt K mg t):OkQ P w base CX0 T.q_fraction 1 spZE:=by
 refine T.q_fraction.ok ["top","bottom","divisor"] S (λvs H Q E h=>?_) (λcdv A outer s H vs Q E hr h=>?_)
 ·exact False.elim h
 ·exact False.elim h
noncomputable def spZF(K:PySem.W.Frag)(C XU Pa:Addr):Sp:=λvs H Q E=>∃w a n ps kd ns,vs=[.ref w,.ref a]/\WebAt C H w n ps/\ZL n ps/\SqK kd K H a (IL ns)/\(¬IsSet ps.length ns->E (.ref XU) none H)/\(IsSet ps.length ns->¬Za7 n ps/\∀H',Same H H'->E (.ref Pa) none H')
theorem scZF:FnScope ["web","ties"] ["web","ties"] (Zz9 (top 81)):=Zf1 S
theorem okZF(T:Txt K mg t):OkQ P w base (CXW P w) T.q_share_of 8 (spZF K t.A_Web t.A_BadSet t.A_Parted):=by
 refine T.q_share_of.okX ["web","ties"] S (λvs H Q E h=>?_) (λcdv A outer s H vs Q E hr h=>?_)
 ·obtain⟨w,a,n,ps,kd,ns,rfl,_⟩:=h;rfl
 ·obtain⟨w,a,n,ps,kd,ns,rfl,hW,hG,hS,q1,q2⟩:=h;refine⟨_,(Zz2 (Zg (i:=1) scZF.nd Z (Or.inl Z)<|Zz6 (okZd T) hr T.q_made_set pxs<|Zz0 (pv 0)<|Zz0 (pv 1) Zz3)
   (Zz2 (ZQ<|Zz6 (okZi T) hr T.q_refuse_parted pxs<|Zz0 (pv 0) Zz3)
   (Zz5<|Zk<|Zz6 (okZE T) hr T.q_fraction ZB<|Zz0 (Zz6 (okZm T) hr T.q_part_count ZB<|Zz0 (pv 0)<|Zz0 (pv 1)<|Zz0 (Zb1 Zz3) Zz3)<|Zz0 (Zz6 (okZl T) hr T.q_tree_count ZB<|Zz0 (pv 0) Zz3) Zz3))),?_⟩
  refine⟨_,Z,_,Z,w,a,n,ps,kd,ns,Z,hW,hS,λhI r H1 s1 hr=>?_,q1⟩;obtain⟨hJ,q⟩:=q2 hI;refine nm ?_;dsimp only[List.set];exact⟨_,Z,w,n,ps,Z,hW.same s1,hG,λh=>absurd h hJ,λ_ H2 s2=>q H2<|s1.trans s2⟩
noncomputable def spZG:Sp:=λ_ _ _ _=>False
theorem okZG(T:Txt K mg t):OkQ P w base CX0 T.q_ties_text 1 spZG:=by
 refine T.q_ties_text.ok ["ties"] S (λvs H Q E h=>?_) (λcdv A outer s H vs Q E hr h=>?_)
 ·exact False.elim h
 ·exact False.elim h
noncomputable def spZH:Sp:=λ_ _ _ _=>False
theorem okZH(T:Txt K mg t):OkQ P w base CX0 T.q_fraction_text 1 spZH:=by
 refine T.q_fraction_text.ok ["pair"] S (λvs H Q E h=>?_) (λcdv A outer s H vs Q E hr h=>?_)
 ·exact False.elim h
 ·exact False.elim h
noncomputable def spZI (K:PySem.W.Frag) (C Pa:Addr):Sp:=λvs H Q E=>∃w b n ps ls,vs=[.ref w,.ref b,.str "cheapest"]/\WebAt C H w n ps/\ZL n ps/\SqL K H b (IL ls)/\ls.length=ps.length/\(∀U,¬Zo n ps U)/\∀H',Same H H'->E (.ref Pa) none H'
theorem okZI(T:Txt K mg t):OkQ P w base (CXW P w) T.q_answer_alone 9 (spZI K t.A_Web t.A_Parted):=by
 refine T.q_answer_alone.okX ["web","lengths","name"] S (λvs H Q E h=>?_) (λcdv A outer s H vs Q E hr h=>?_)
 ·obtain⟨w,b,n,ps,ls,rfl,_⟩:=h;rfl
 ·obtain⟨w,b,n,ps,ls,rfl,hW,hG,hS,hl,hno,q⟩:=h;refine⟨_,(Zz2 (Zz61 (Zi Zz32 (pv 2) Zr<|Zq _)
   (Zz5<|Zk<|Zj ZI XS T.n_str Boot.«str»<|Zz0 (Zz6 (okZl T) hr T.q_tree_count ZB<|Zz0 (pv 0) Zz3) Zz3)
   Zm)
   (Zz5<|Zk<|Zz6 (okZG T) hr T.q_ties_text ZB<|Zz0 (Zz6 (okZv T) hr T.q_cheapest_tree pxs<|Zz0 (pv 0)<|Zz0 (pv 1) Zz3) Zz3)),?_⟩
  have no:∀U,¬Zo n (cwT n.toNat ps ls) U:=λU hU=>by obtain⟨V,hV⟩:=(Zn12 hG hl).mpr ⟨U,hU⟩;exact hno V hV
  refine⟨_,Z,Z,_,Z,?_⟩;rw[show decide (V.str "cheapest"=V.str (Str.ofString "count"))=false from YR λe=>by cases e];refine iteF ?_;show(_:Prop)
  refine ZU3 ?_;exact⟨_,Z,_,Z,w,b,n,ps,ls,Z,hW,hG,hS,λ_ ex=>absurd ex.choose_spec<|no _,λ_ _=>q,λh=>absurd hl h⟩
noncomputable def spZJ:Sp:=λ_ _ _ _=>False
theorem okZJ(T:Txt K mg t):OkQ P w base CX0 T.q_rank_text 1 spZJ:=by
 refine T.q_rank_text.ok ["web","lengths","most"] S (λvs H Q E h=>?_) (λcdv A outer s H vs Q E hr h=>?_)
 ·exact False.elim h
 ·exact False.elim h
noncomputable def spZK (K:PySem.W.Frag) (C N:Addr):Sp:=λvs H Q E=>∃w b n ps z nm,vs=[.ref w,.ref b,.str nm,.int z]/\(nm="tree"\/nm="row")/\WebAt C H w n ps/\ZL n ps/\-(10^70)<z/\z<10^70/\(∀c:Nat,TC n ps c->0<=z->(c:Int)<=z)/\∀H',Same H H'->E (.ref N) none H'
theorem okZK(T:Txt K mg t):OkQ P w base (CXW P w) T.q_answer_of_number 10 (spZK K t.A_Web t.A_NoSuch):=by
 refine T.q_answer_of_number.okX ["web","lengths","name","number"] S (λvs H Q E h=>?_) (λcdv A outer s H vs Q E hr h=>?_)
 ·obtain⟨w,b,n,ps,z,nm,rfl,_⟩:=h;rfl
 ·obtain⟨w,b,n,ps,z,nm,rfl,hn,hW,hG,z0,z1,hz,q⟩:=h;refine⟨_,(Zz2 (Zz61 (Zi Zz32 (pv 2) Zr<|Zq _)
   (Zz5<|Zk<|Zz6 (okZG T) hr T.q_ties_text ZB<|Zz0 (Zz6 (okZr T) hr T.q_tree_at pxs<|Zz0 (pv 0)<|Zz0 (pv 3) Zz3) Zz3)
   Zm)
   (Zz2 (Zz61 (Zi Zz32 (pv 2) Zr<|Zq _)
   (Zz5<|Zk<|Zz6 (okZG T) hr T.q_ties_text ZB<|Zz0 (Zz6 (okZB T) hr T.q_row_at pxs<|Zz0 (pv 0)<|Zz0 (pv 3) Zz3) Zz3)
   Zm)
   (Zz5<|Zk<|Zz6 (okZJ T) hr T.q_rank_text ZB<|Zz0 (pv 0)<|Zz0 (pv 1)<|Zz0 (pv 3) Zz3))),?_⟩
  refine⟨_,Z,Z,_,Z,?_⟩;rcases hn with rfl|rfl
  ·refine itd Z ?_;exact⟨_,Z,_,Z,w,n,ps,z,Z,hW,hG,z0,z1,hz,q⟩
  ·refine itdn (λe=>by cases e) ?_;show(_:Prop)
   refine ZU3 ?_;refine⟨_,Z,Z,_,Z,?_⟩;refine itd Z ?_;exact⟨_,Z,_,Z,w,n,ps,z,Z,hW,hG,z0,z1,hz,q⟩
noncomputable def spZL(K:PySem.W.Frag)(C XU:Addr):Sp:=λvs H Q E=>∃w a n ps kd ns,vs=[.ref w,.ref a]/\WebAt C H w n ps/\ZL n ps/\SqK kd K H a (IL ns)/\¬Zo n ps ns/\∀H',Same H H'->E (.ref XU) none H'
theorem scZL:FnScope ["web","tree","behind"] ["web","tree"] (Zz9 (top 101)):=Zf1 S
theorem okZL(T:Txt K mg t):OkQ P w base (CXW P w) T.q_next_text 10 (spZL K t.A_Web t.A_NoTree):=by
 refine T.q_next_text.okX ["web","tree","behind"] S (λvs H Q E h=>?_) (λcdv A outer s H vs Q E hr h=>?_)
 ·obtain⟨w,a,n,ps,kd,ns,rfl,_⟩:=h;rfl
 ·obtain⟨w,a,n,ps,kd,ns,rfl,hW,hG,hS,hno,q⟩:=h;refine⟨_,(Zz2 (Zg (i:=2) scZL.nd Z (Or.inl Z)<|Zz6 (okZD T) hr T.q_row_next pxs<|Zz0 (pv 0)<|Zz0 (pv 1) Zz3)
   (Zz5<|Zk<|Zj2 (Zi Zp11 (pv 2) Zz16<|Zq _) Zr<|Zz6 (okZG T) hr T.q_ties_text ZB<|Zz0 (pv 2) Zz3)),?_⟩
  exact⟨_,Z,_,Z,w,a,n,ps,kd,ns,Z,hW,hG,hS,hno,q⟩
noncomputable def spZM(K:PySem.W.Frag)(C XU XW Pa:Addr):Sp:=λvs H Q E=>∃w a n ps kd ns nm,vs=[.ref w,.str nm,.ref a]/\WebAt C H w n ps/\ZL n ps/\SqK kd K H a (IL ns)/\
 (((nm="number"\/nm="place"\/nm="next")/\¬Zo n ps ns/\∀H',Same H H'->E (.ref XU) none H')\/(nm="share"/\(¬IsSet ps.length ns->E (.ref XW) none H)/\(IsSet ps.length ns->¬Za7 n ps/\∀H',Same H H'->E (.ref Pa) none H')))
theorem okZM(T:Txt K mg t):OkQ P w base (CXW P w) T.q_answer_of_ties 11 (spZM K t.A_Web t.A_NoTree t.A_BadSet t.A_Parted):=by
 refine T.q_answer_of_ties.okX ["web","name","ties"] S (λvs H Q E h=>?_) (λcdv A outer s H vs Q E hr h=>?_)
 ·obtain⟨w,a,n,ps,kd,ns,nm,rfl,_⟩:=h;rfl
 ·obtain⟨w,a,n,ps,kd,ns,nm,rfl,hW,hG,hS,hn⟩:=h;refine⟨_,(Zz2 (Zz61 (Zi Zz32 (pv 1) Zr<|Zq _)
   (Zz5<|Zk<|Zj ZI XS T.n_str Boot.«str»<|Zz0 (Zz6 (okZt T) hr T.q_number_of pxs<|Zz0 (pv 0)<|Zz0 (pv 2) Zz3) Zz3)
   Zm)
   (Zz2 (Zz61 (Zi Zz32 (pv 1) Zr<|Zq _)
   (Zz5<|Zk<|Zj ZI XS T.n_str Boot.«str»<|Zz0 (Zz6 (okZC T) hr T.q_row_number pxs<|Zz0 (pv 0)<|Zz0 (pv 2) Zz3) Zz3)
   Zm)
   (Zz2 (Zz61 (Zi Zz32 (pv 1) Zr<|Zq _)
   (Zz5<|Zk<|Zz6 (okZL T) hr T.q_next_text pxs<|Zz0 (pv 0)<|Zz0 (pv 2) Zz3)
   Zm)
   (Zz5<|Zk<|Zz6 (okZH T) hr T.q_fraction_text ZB<|Zz0 (Zz6 (okZF T) hr T.q_share_of pxs<|Zz0 (pv 0)<|Zz0 (pv 2) Zz3) Zz3)))),?_⟩
  refine⟨_,Z,Z,_,Z,?_⟩;rcases hn with ⟨rfl|rfl|rfl,hno,q⟩|⟨rfl,q1,q2⟩
  ·refine itd Z ?_;exact⟨_,Z,_,Z,w,a,n,ps,kd,ns,Z,hW,hG,hS,hno,q⟩
  ·refine itdn (λe=>by cases e) ?_;show(_:Prop)
   refine ZU3 ?_;refine⟨_,Z,Z,_,Z,?_⟩;refine itd Z ?_;exact⟨_,Z,_,Z,w,a,n,ps,kd,ns,Z,hW,hG,hS,hno,q⟩
  ·refine itdn (λe=>by cases e) ?_;show(_:Prop)
   refine ZU3 ?_;refine⟨_,Z,Z,_,Z,?_⟩;refine itdn (λe=>by cases e) ?_;show(_:Prop)
   refine ZU3 ?_;refine⟨_,Z,Z,_,Z,?_⟩;refine itd Z ?_;exact⟨_,Z,_,Z,w,a,n,ps,kd,ns,Z,hW,hG,hS,hno,q⟩
  ·refine itdn (λe=>by cases e) ?_;show(_:Prop)
   refine ZU3 ?_;refine⟨_,Z,Z,_,Z,?_⟩;refine itdn (λe=>by cases e) ?_;show(_:Prop)
   refine ZU3 ?_;refine⟨_,Z,Z,_,Z,?_⟩;refine itdn (λe=>by cases e) ?_;show(_:Prop)
   refine ZU3 ?_;exact⟨_,Z,_,Z,w,a,n,ps,kd,ns,Z,hW,hG,hS,q1,q2⟩
noncomputable def spZN:Sp:=λvs H Q _=>∃w:Str,vs=[.str w]/\(w.cps.all λc=>decide<|c<128)=true/\w.length<=100000/\∀H':Hp,Same H H'->Q (.bl<|ZZ2 w.cps.toList) H'
theorem ZH8(x y:Str):decide (V.str x=V.str y)=decide (x.cps.toList=y.cps.toList):=Y1c.mpr ⟨λe=>by cases e;rfl,λe=>by rw[Zp4 e]⟩
theorem Zd10{cs:List Nat}{c:Nat}(h:c∈figs cs):c∈cs:=by
 unfold figs at h;split at h
 ·exact List.mem_of_mem_tail h
 ·exact h
theorem Ze10(cs:List Nat):(figs cs).length<=cs.length:=by
 unfold figs;split
 ·rw[Yy27];omega
 ·exact Yy6 _
theorem any_not{l:List Nat}{f:Nat->Bool}:(l.map λc=>!f c).any id=false↔∀c∈l,f c=true:=by
 rw[List.any_eq_false];constructor
 ·intro h c hc
  have:=h (!f c) (Yt.mpr ⟨c,hc,Z⟩)
  cases e:f c with
  |true=>rfl
  |false=>rw[e]at this;exact absurd Z this
 ·intro h b hb;obtain⟨c,hc,rfl⟩:=Yt.mp hb;rw[h c hc];decide
theorem scZN:FnScope ["word","figures"] ["word"] (Zz9 (top 85)):=Zf1 S
theorem okZN(T:Txt K mg t):OkQ P w base CX0 T.q_is_number 1 spZN:=by
 refine T.q_is_number.ok ["word","figures"] S (λvs H Q E h=>?_) (λcdv A outer s H vs Q E hr h=>?_)
 ·obtain⟨w,rfl,_⟩:=h;rfl
 ·obtain⟨w,rfl,ha,hl,q⟩:=h;refine⟨_,(Zz2 (Zg (i:=1) scZN.nd Z (Or.inl Z)<|Zj2 (Zm3<|Zk1 K Y0b PySem.F.slot_str_startswith PySem.F.type_str_startswith Zv7 (pv 0)<|Zz0 Zr Zz3) (ZW ZW10 (pv 0) (Zn1 Zz7) Zo1)<|pv 0)
   (Zz2 (Zz61 (PW.pt<|ZD10 (ZN2<|ZO2 Ze8 Ze8 Zz7 (Zc Zf4 XS T.n_len Boot.«len»<|Zz0 (pv 1) Zz3)<|Zq1 (v:=V.int 60) Z T.g_MOST_FIGURES.choose_spec ⟨_,Z⟩)<|Zb5<|Zm3<|Zc (ZW7 K Z) XS T.n_any Boot.«any»<|Zz0 (Zs5 Z (sc0:=Zz9<|top 85) (N0:=["word","figures"]) (N':=["sign"]) (o:=1) (fr:=[]) ⟨Z,S,S,S,Z,S⟩ (Ze11<|pv 1) (ZE J) (λ_ _ _ _=>(Zf (i:=0) (show List.Nodup (["sign"]:List Str) by decide +kernel) Z<|Or.inl Z)) (λ_ _ _ _=>ZP) λ_ _ _ _=>(ZN1 ZS3 (pv 0) (Zq1 (v:=V.str "0123456789") Z T.g_FIGURES.choose_spec ⟨_,Z⟩) Z)) Zz3)
   (Zz5<|Zk Zv2)
   Zm)
   (Zz5<|Zk<|Zk14 (ZN1 Zz32 (pv 0) Zr<|Zq _)<|Zh11<|ZN1 Zz86 (ZC Zu13 (pv 1) Zz7 λ_ _=>rfl) Zr<|Zq _))),?_⟩
  have hw:=Zz81 w;have z1:100000<=sizeLine:=J
  refine ZC13 (λσ H'=>H'=H/\∃F:Str,σ=[some (.str w),some (.str F)]/\F.cps.toList=figs w.cps.toList) ?_ ?_;rotate_left
  ·intro Kn hK;refine⟨_,Z,Z,_,_,Z,Z,_,Z,?_⟩;rw[Zi7];refine itd2 (λhs=>?_) (λhs=>?_)
   ·have hpos:1<=w.cps.toList.length:=by
     cases e:w.cps.toList with
     |nil=>rw[e]at hs;cases hs
     |cons c r=>simp
    have et:=ZL5 hpos;refine⟨_,Z,_,Z,w,Z,?_,hK _ _ ⟨Z,_,Z,?_⟩⟩
    ·rw[Zz81,et,Yy27];grind
    ·rw[et];unfold figs;rw[if_pos hs]
   ·refine⟨_,Z,hK _ _ ⟨Z,_,Z,?_⟩⟩;unfold figs;rw[if_neg hs]
  rintro σ H' ⟨rfl,F,rfl,hF⟩;have hFl:=Zz81 F
  have hfl:=Ze10 w.cps.toList;have hFs:F.length<=100000:=by rw[hFl,hF];lia
  have hFa:(F.cps.all λc=>decide<|c<128)=true:=by rw[<-Y2T,Yy03]at ha ⊢;intro c hc;rw[hF]at hc;exact ha c (Zd10 hc)
  have bad:¬(1<=(figs w.cps.toList).length/\(figs w.cps.toList).length<=60/\∀c∈figs w.cps.toList,48<=c/\c<=57)->∀H2:Hp,Same H' H2->Q (.bl false) H2:=λh H2 s2=>by
   have e:ZZ2 w.cps.toList=false:=YR λz=>h ⟨z.1,z.2.1,z.2.2.1⟩
   have:=q H2 s2
   rwa[e]at this
  refine⟨_,Z,F,Z,O,_,_,Z,Z,_,Z,?_⟩;refine itd2 (λh1=>?_) λh1=>?_;rotate_left
  ·refine⟨_,Z,?_⟩;refine iteT ?_;refine iteT ?_;exact bad (λz=>h1 (by have:=z.1;rw[<-hF,<-hFl]at this;lia)) _ (Same.refl _)
  refine⟨_,_,Z,Z,_,Z,?_⟩;refine itn2 (λh60=>?_) λh60=>?_;rotate_left
  ·refine iteT ?_;exact bad (λz=>h60 (by have:=z.2.1;rw[<-hF,<-hFl]at this;lia)) _ (Same.refl _)
  refine⟨_,Z,F,Z,hFa,ZJ11 (λi ys H2=>H2=H'/\ys=((F.cps.toList.take i).map λc=>!decide (48<=c/\c<=57)).map V.bl) ⟨Z,Z⟩ (by show F.length<sizeLine;grind) (λi ys H2 _ zz=>by obtain⟨_,e⟩:=zz;rw[e,Yy9,Yy9,Yp];grind) ?_ ?_⟩
  ·rintro i c ys H2 hc ⟨rfl,rfl⟩ XW hSS;refine nmY ?_;refine⟨_,Z,_,_,Z,Z,?_⟩;rw[ZP7];refine hSS _ _ ⟨Z,?_⟩;have hc':F.cps.toList[i]?=some c:=by rwa[Yy01]
   rw[YD,hc',Yz,Yz];rfl
  rintro ys H2 ⟨rfl,rfl⟩ p hp;rw[YL (by rw[YI];exact Yy6 _)];refine⟨p,_,Z,SqL.of Zz1,_,Z,?_⟩;have s3:=Zz4 (o:=.lst<|(F.cps.toList.map λc=>!decide (48<=c/\c<=57)).map V.bl) hp
  generalize upd H2 p (.lst<|(F.cps.toList.map λc=>!decide (48<=c/\c<=57)).map V.bl)=H3 at *;cases hb:(F.cps.toList.map λc=>!decide (48<=c/\c<=57)).any id with
  |true=>
   refine iteT ?_;refine bad (λz=>?_) _ s3;rw[<-hF]at z;rw[any_not.mpr λc hc=>YG (z.2.2 c hc)]at hb;cases hb
  |false=>
   refine iteF ?_;have hall:=any_not.mp hb
   rw[hF]at hall hFl;refine ZU3 ?_;cases hf:figs w.cps.toList with
   |nil=>rw[hf]at hFl;simp at hFl;lia
   |cons c r=>
    have hF0:atI F.cps.toList 0=some c:=by rw[hF,hf];exact Zw (n:=0) J rfl
    refine⟨_,Z,Z,_,Z,?_⟩;rw[ZH8];have e0:(Str.ofString "0").cps.toList=[48]:=XS
    rw[e0];have fin:∀b:Bool,(b=true↔w.cps.toList=[48]\/c≠48)->Q (.bl b) H3:=λb hb2=>by
     have e:ZZ2 w.cps.toList=b:=by
      rw[Y0I,hb2];unfold ZZ2;rw[YT];constructor
      ·rintro⟨_,_,_,h⟩;rcases h with h|h
       ·exact .inl h
       ·exact .inr λe=>h (by rw[hf,e];rfl)
      ·intro h;refine⟨O,O,λx hx=>YO<|hall x hx,?_⟩;rcases h with h|h
       ·exact .inl h
       ·exact .inr λe=>h (by rw[hf]at e;exact Yl e)
     have:=q H3 s3
     rwa[e]at this
    refine itd2 (λh0=>?_) (λh0=>?_)
    ·exact fin true ⟨λ_=>.inl h0,λ_=>rfl⟩
    ·refine⟨_,Z,F,0,c,Z,Z,XR,hF0,Z,?_⟩;rw[ZH8,e0];refine fin _ ⟨λh=>.inr λe=>?_,λh=>?_⟩
     ·rw[e]at h;exact absurd h J
     ·rcases h with h|h
      ·exact absurd h h0
      ·rw[YR λe=>h (YB e).1];rfl
noncomputable def spZO(R:Addr):Sp:=λvs H Q E=>∃w:Str,vs=[.str w]/\(w.cps.all λc=>decide<|c<128)=true/\w.length<=100000/\
 (∀i:Int,w=nT i->-(10^60)<i->i<10^60->∀H':Hp,Same H H'->Q (.int i) H')/\((¬∃i:Int,w=nT i/\-(10^60)<i/\i<10^60)->∀H':Hp,Same H H'->E (.ref R) none H')
theorem okZO(T:Txt K mg t):OkQ P w base (CXW P w) T.q_read_number 2 (spZO t.A_BadText):=by
 refine T.q_read_number.okX ["word"] S (λvs H Q E h=>?_) (λcdv A outer s H vs Q E hr h=>?_)
 ·obtain⟨w,rfl,_⟩:=h;rfl
 ·obtain⟨w,rfl,ha,hl,q,qe⟩:=h;refine⟨_,(Zz2 (Zz61 (ZN2<|Zm3<|Zz6 (okZN T) hr T.q_is_number ZB<|Zz0 (pv 0) Zz3)
   (Zz5<|Zj1 T.x_BadText T.c_BadText<|Zz0 Zr Zz3)
   Zm)
   (Zz5<|Zk<|Zj ZV7 XS T.n_int Boot.«int»<|Zz0 (pv 0) Zz3)),?_⟩
  refine⟨_,Z,w,Z,ha,hl,λH1 s1=>⟨_,Z,?_⟩⟩;by_cases hn:ZZ2 w.cps.toList=true
  ·obtain⟨i,rfl,h1,h2⟩:=ZF9 hn;have hl:=Zs3 (k:=60) J h1 h2
   rw[hn];refine iteF ?_;show(_:Prop)
   refine ZU3 ?_;exact⟨_,Z,nT i,i,Z,ZW3 (k:=60) J J h1 h2,XT,q i Z h1 h2 H1 s1⟩
  ·rw[Yy16.mpr hn];refine iteT ?_;exact⟨by show 1<=sizeLine;decide,qe (λz=>hn<|num_iff.mpr z) H1 s1⟩
noncomputable def spZP(K:PySem.W.Frag):Sp:=λvs H Q _=>∃name l,vs=[.str (Str.join Zs<|name::l.map nT),.str name,.int l.length]/\32∉name.cps.toList/\name.length<=100/\l.length<=10/\Told l/\∀r H',Same H H'->H' r=some (.lst<|IL l)->Q (.ref r) H'
theorem scZP:FnScope ["line","name","many","words"] ["line","name","many"] (Zz9 (top 87)):=Zf1 S
theorem okZP(T:Txt K mg t):OkQ P w base CX0 T.q_read_line 3 (spZP K):=by
 refine T.q_read_line.ok ["line","name","many","words"] S (λvs H Q E h=>?_) (λcdv A outer s H vs Q E hr h=>?_)
 ·obtain⟨name,l,rfl,_⟩:=h;rfl
 ·obtain⟨name,l,rfl,hn,hnl,hll,hl,q⟩:=h;refine⟨_,(Zz2 (Zg (i:=3) scZP.nd Z (Or.inl Z)<|Zk1 K Y0b Y0D Yy25 ZX3 (pv 0)<|Zz0 Zr Zz3)
   (Zz2 (Zz61 (PW.pt<|ZD10 (Zi Zz86 (ZC (Zb K) (pv 3) Zz7 λ_ _=>rfl) (pv 1)<|Zq _)<|Zb5<|Zi Zz86 (Zc (Zh K) XS T.n_len Boot.«len»<|Zz0 (pv 3) Zz3) (Zn Zc1 (pv 2) Zz7)<|Zq _)
   (Zz5 Zf2)
   Zm)
   (Zz5<|Zk<|Zs5 Z (sc0:=Zz9<|top 87) (N0:=["line","name","many","words"]) (N':=["word"]) (o:=1) (fr:=[]) ⟨Z,S,S,S,Z,S⟩ (ZS K<|ZW (Zz11 K) (pv 3) (Zn1 Zz7) Zo1) (ZE J) (λ_ _ _ _=>(Zf (i:=0) (show List.Nodup (["word"]:List Str) by decide +kernel) Z<|Or.inl Z)) (λ_ _ _ _=>ZP) λ_ _ _ _=>(Zz6 (okZO T) hr T.q_read_number Zg13<|Zz0 (pv 0) Zz3)))),?_⟩
  have hsp:=Zu5 (l:=l) hn;have hlen:(Str.join Zs<|name::l.map nT).length<=2000:=by
   rw[Ze1];refine Yv (ZY2 (XU:=100) λa ha=>?_) (by rw[Yq,Yy9];lia);rcases Ye.mp ha with e|e
   ·rwa[e]
   ·have:=Zc2 hl a e;lia
  have z1:2000<=sizeLine:=J;refine⟨_,Z,Z,_,_,Z,Z,Z,O,?_,λp hp=>?_⟩
  ·show(Txt.split _ Zs).length<=_;rw[hsp,Yq,Yy9];lia
  have e:Txt.split (Str.join Zs<|name::l.map nT) (Str.ofString " ")=name::l.map nT:=hsp;rw[e];have u1:=Zz4 (o:=.lst<|TL<|name::l.map nT) hp
  have hp1:(upd H p<|.lst<|TL<|name::l.map nT) p=some (.lst<|TL<|name::l.map nT):=Zz1;generalize upd H p (.lst<|TL<|name::l.map nT)=H1 at *;refine nm ?_;refine⟨_,Z,p,_,0,.str name,Z,Z,SqL.of hp1,Zw (n:=0) J Z,_,Z,Z,_,Z,?_⟩;refine itn Z ?_;refine⟨_,Z,p,_,Z,.inl<|SqL.of hp1,_,Z,_,_,Z,Z,Z,_,Z,?_⟩;rw[Zx,Yq,Yy9,Zz];refine itn O ?_;refine ZU3 ?_;refine⟨_,Z,_,Z,p,_,Z,SqL.of hp1,λp2 hp2=>?_⟩;rw[ZS1 J];have e2:(TL<|name::l.map nT).drop (1:Int).toNat=TL (l.map nT):=rfl
  rw[e2];have u2:=Zz4 (o:=.lst<|TL<|l.map nT) hp2
  have hp3:(upd H1 p2<|.lst<|TL<|l.map nT) p2=some (.lst<|TL<|l.map nT):=Zz1;generalize upd H1 p2 (.lst<|TL<|l.map nT)=H2 at *;refine⟨p2,Z,⟨_,SqL.of hp3⟩,Zx1 (K:=K) (a:=p2) (xs:=TL<|l.map nT) (λi ys H3=>Same H2 H3/\ys=IL (l.take i)) ⟨Same.refl _,Z⟩ (Zp<|by rw[Zx,Yy9];lia) (λi ys H3 _ zz=>by obtain⟨e,ey⟩:=zz;exact⟨SqL.of<|e _ _ hp3,by rw[ey,Zz8,Yp];lia⟩) ?_ ?_⟩
  ·rintro i v ys H3 hi ⟨s3,rfl⟩ XW hSS;obtain⟨x,rfl,hx⟩:=Zz19 hi;rw[Yg]at hx;obtain⟨z,hz,rfl⟩:=Y1s.mp hx;have hb:=hl z (Yy8 hz)
   refine nmY ?_;refine⟨_,Z,nT z,Z,Zf6 z,(by have:=Zs3 (k:=60) J hb.1 hb.2;lia),λz' hz' k1 k2 H4 s4=>?_,λhno _ _=>absurd ⟨z,Z,hb.1,hb.2⟩ hno⟩;obtain rfl:=ZJ9 (k:=60) J J hb.1 hb.2 k1 k2 hz';refine hSS _ _ ⟨s3.trans s4,?_⟩;rw[YD,hz];show IL (l.take i)++[V.int z]=IL (l.take i++[z])
   rw[Zr1]
  rintro ys H3 ⟨s3,rfl⟩ p3 hp4;rw[Zx,Yy9,YC];exact q p3 _ (u1.trans<|u2.trans<|s3.trans<|Zz4 hp4) Zz1
noncomputable def spZQ(K:PySem.W.Frag)(C:Addr):Sp:=λvs H Q _=>∃n ps ls,vs=[.str (Zr5 n ps ls)]/\ZL n ps/\ls.length=ps.length/\Told ls/\∀t w a H',Same H H'->H a=none->H' t=some (.tup [.ref w,.ref a])->WebAt C H' w n ps->H' a=some (.lst<|IL ls)->Q (.ref t) H'
theorem scZQ:FnScope ["text","lines","places","ties"] ["text"] (Zz9 (top 88)):=Zf1 S
theorem okZQ(T:Txt K mg t):OkQ P w base CX0 T.q_read_web 4 (spZQ K t.A_Web):=by
 refine T.q_read_web.ok ["text","lines","places","ties"] S (λvs H Q E h=>?_) (λcdv A outer s H vs Q E hr h=>?_)
 ·obtain⟨n,ps,ls,rfl,_⟩:=h;rfl
 ·obtain⟨n,ps,ls,rfl,hG,hl,hT,q⟩:=h;refine⟨_,(Zz2 (Zg (i:=1) scZQ.nd Z (Or.inl Z)<|Zk1 K Y0b Y0D Yy25 ZX3 (pv 0)<|Zz0 Zr Zz3)
   (Zz2 (Zg (i:=2) scZQ.nd Z (Or.inl Z)<|Zz6 (okZP T) hr T.q_read_line ZB<|Zz0 (ZC (Zb K) (pv 1) Zz7 λ_ _=>rfl)<|Zz0 Zr<|Zz0 Zz7 Zz3)
   (Zz2 (Zo7 (i:=3) Z scZQ.nd Z Z (sc0:=Zz9<|top 88) (N0:=["text","lines","places","ties"]) (N':=["line"]) (o:=1) (fr:=[]) ⟨Z,S,S,S,Z,S⟩ (ZS K<|ZW (Zz11 K) (pv 1) (Zn1 Zz7) Zo1) (ZE J) (λ_ _ _ _=>(Zf (i:=0) (show List.Nodup (["line"]:List Str) by decide +kernel) Z<|Or.inl Z)) (λ_ _ _ _=>ZP) λ_ _ _ _=>(Zz6 (okZP T) hr T.q_read_line ZB<|Zz0 (pv 0)<|Zz0 Zr<|Zz0 Zz7 Zz3))
   (Zz5<|Zk<|Zb1<|Zz0 (Zz26 T.k_Web (okZ8 T) (hr.mono J) Z T.c_Web T.bZ8 .nil ZB<|Zz0 (ZC (Zb K) (pv 2) Zz7 λ_ _=>rfl)<|Zz0 (Zs5 Z (sc0:=Zz9<|top 88) (N0:=["text","lines","places","ties"]) (N':=["tie"]) (o:=1) (fr:=[]) ⟨Z,S,S,S,Z,S⟩ (ZS K<|pv 3) (ZE J) (λ_ _ _ _=>(Zf (i:=0) (show List.Nodup (["tie"]:List Str) by decide +kernel) Z<|Or.inl Z)) (λ_ _ _ _=>ZP) λ_ _ _ _=>(Zb1<|Zz0 (ZC (Zb K) (pv 0) Zz7 λ_ _=>rfl)<|Zz0 (ZC (Zb K) (pv 0) Zz7 λ_ _=>rfl) Zz3)) Zz3)<|Zz0 (Zs5 Z (sc0:=Zz9<|top 88) (N0:=["text","lines","places","ties"]) (N':=["tie"]) (o:=1) (fr:=[]) ⟨Z,S,S,S,Z,S⟩ (ZS K<|pv 3) (ZE J) (λ_ _ _ _=>(Zf (i:=0) (show List.Nodup (["tie"]:List Str) by decide +kernel) Z<|Or.inl Z)) (λ_ _ _ _=>ZP) λ_ _ _ _=>(ZC (Zb K) (pv 0) Zz7 λ_ _=>rfl)) Zz3)))),?_⟩
  have hp30:=hG.2.2.1;have hn1:=hG.1
  have hn2:=hG.2.1;have two:2<=sizeLine:=J
  have z1:100000<=sizeLine:=J;have wl:=Zc3 (n:=n) hl
  have hsp:=ZS9 (n:=n) (ps:=ps) (ls:=ls);have tlen:(Zr5 n ps ls).length<=100000:=by unfold Zr5;rw[ZD12];refine Yv (ZY2 (XU:=400)<|ZI3 hG hT) (by rw[wl];lia)
  refine⟨_,Z,Z,_,_,Z,Z,Z,O,?_,λp hp=>?_⟩
  ·show(Txt.split _ nlS).length<=_;rw[hsp,wl];lia
  have e:Txt.split (Zr5 n ps ls) (Str.ofString "\n")=webT n ps ls:=hsp;rw[e];have u1:=Zz4 (o:=.lst<|TL<|webT n ps ls) hp
  have hp1:(upd H p<|.lst<|TL<|webT n ps ls) p=some (.lst<|TL<|webT n ps ls):=Zz1;generalize upd H p (.lst<|TL<|webT n ps ls)=H1 at *;refine nm ?_;refine⟨_,Z,p,_,0,.str<|Str.ofString "places "++nT n,Z,Z,SqL.of hp1,Zw (n:=0) J Z,Str.ofString "places",[n],by rw[Zx4];rfl,J,J,(show 1<=10 by decide),λz hz=>by rw[Yy2.mp hz];omega,λpA H2 s2 hpA=>?_⟩;refine nm ?_;have hp2:=s2 _ _ hp1
  refine⟨_,Z,_,Z,p,_,Z,SqL.of hp2,λp2 hp3=>?_⟩;rw[ZS1 J];have e2:(TL<|webT n ps ls).drop (1:Int).toNat=TL (List.zipWith Zz04 ps ls):=rfl
  rw[e2];have u3:=Zz4 (o:=.lst<|TL<|List.zipWith Zz04 ps ls) hp3
  have h3:(upd H2 p2<|.lst<|TL<|List.zipWith Zz04 ps ls) p2=some (.lst<|TL<|List.zipWith Zz04 ps ls):=Zz1;have hpA3:=u3 _ _ hpA
  generalize upd H2 p2 (.lst<|TL<|List.zipWith Zz04 ps ls)=H3 at *;have zl:(List.zipWith Zz04 ps ls).length=ps.length:=by rw[Y0e];grind
  obtain⟨R,hR⟩:∃R,R=List.zipWith (λ(p:Int×Int) l=>[p.1,p.2,l]) ps ls:=⟨_,Z⟩;have Rl:R.length=ps.length:=by rw[hR,Y0e];grind
  have Rat:∀(i:Nat)(p:Int×Int)(l:Int),ps[i]?=some p->ls[i]?=some l->R[i]?=some [p.1,p.2,l]:=λi p l h1 h2=>by rw[hR,Y0f,h1,h2]
  refine⟨p2,Z,⟨_,SqL.of h3⟩,Zx1 (K:=K) (a:=p2) (xs:=TL<|List.zipWith Zz04 ps ls) (λi ys H4=>Same H3 H4/\i<=ps.length/\Bears (Zq5 H4) ys (R.take i)) ⟨Same.refl _,Yr _,⟨Z,λi a e=>by simp at e⟩⟩ (Zp<|by rw[Zx,zl];lia) (λi ys H4 _ zz=>by obtain⟨e,hi,h⟩:=zz;exact⟨SqL.of<|e _ _ h3,by rw[h.1,Yp];lia⟩) ?_ ?_⟩
  ·rintro i v ys H4 hi ⟨s4,hil,hB⟩ XW hSS;obtain⟨x,rfl,hx⟩:=Zz19 hi;have hi2:i<ps.length:=by rw[<-zl];exact(Yy4.mp hx).1
   obtain⟨pp,hpp⟩:∃pp,ps[i]?=some pp:=⟨_,Yy0 hi2⟩;obtain⟨l,hll⟩:∃l,ls[i]?=some l:=⟨_,Yy0 O⟩;rw[Y0f,hpp,hll]at hx;obtain rfl:Zz04 pp l=x:=Yl hx;refine nmY ?_;refine⟨_,Z,Str.ofString "tie",[pp.1,pp.2,l],Z,J,J,(show 3<=10 by decide),ZJ2 hG hT hpp hll,λr H5 s5 hr=>hSS _ _ ⟨s4.trans s5,hi2,?_⟩⟩;rw[YD,Rat i pp l hpp hll];exact(hB.imp λ_ _ zz=>by obtain⟨r,e,h⟩:=zz;exact⟨r,e,s5 _ _ h⟩).snoc ⟨r,Z,hr⟩
  rintro ys H4 ⟨s4,_,hB⟩ p3 hp4;rw[Zx,zl,YL O]at hB;have u5:=Zz4 (o:=.lst ys) hp4
  have h5:(upd H4 p3<|.lst ys) p3=some (.lst ys):=Zz1;have hB5:Bears (Zq5<|upd H4 p3<|.lst ys) ys R:=hB.imp λ_ _ zz=>by obtain⟨r,e,h⟩:=zz;exact⟨r,e,u5 _ _ h⟩
  have hpA5:=(s4.trans u5) _ _ hpA3;have sH5:=u1.trans (s2.trans<|u3.trans<|s4.trans u5)
  generalize upd H4 p3 (.lst ys)=H5 at *;have hyl:=hB5.1
  refine nm ?_;have Rrow:∀i row,R[i]?=some row->∃(p:Int×Int)(l:Int),ps[i]?=some p/\ls[i]?=some l/\row=[p.1,p.2,l]:=λi row h=>by
   have hi2:i<ps.length:=by rw[<-Rl];exact(Yy4.mp h).1
   obtain⟨pp,hpp⟩:∃pp,ps[i]?=some pp:=⟨_,Yy0 hi2⟩;obtain⟨l,hll⟩:∃l,ls[i]?=some l:=⟨_,Yy0 O⟩;rw[Rat i pp l hpp hll]at h;exact⟨pp,l,hpp,hll,(Yl h).symm⟩
  refine⟨_,Z,pA,_,0,.int n,Z,Z,SqL.of hpA5,Zw (n:=0) J Z,_,Z,p3,Z,⟨_,SqL.of h5⟩,Zx1 (K:=K) (a:=p3) (xs:=ys) (λi us H6=>Same H5 H6/\i<=ys.length/\PairsV H6 us (ps.take i)) ⟨Same.refl _,Yr _,PairsV.nil⟩ (Zp O) (λi us H6 _ zz=>by obtain⟨e,hi,h⟩:=zz;exact⟨SqL.of<|e _ _ h5,by rw[h.1,Yp];lia⟩) ?_ ?_⟩
  ·rintro i v us H6 hi ⟨s6,hil,hU⟩ XW hSS;obtain⟨row,hrow,r,rfl,hr⟩:=hB5.at hi;obtain⟨pp,l,hpp,hll,rfl⟩:=Rrow i row hrow;have hil':=(Yy4.mp hi).1
   refine nmY ?_;refine⟨_,Z,r,_,0,.int pp.1,Z,Z,SqL.of<|s6 _ _ hr,Zw (n:=0) J Z,_,Z,r,_,1,.int pp.2,Z,Z,SqL.of<|s6 _ _ hr,Zw (n:=1) J Z,two,λc hc=>hSS _ _ ⟨s6.trans<|Zz4 hc,hil',?_⟩⟩;rw[YD,hpp];exact(hU.same<|Zz4 hc).snoc ⟨c,Z,Zz1⟩
  rintro us H6 ⟨s6,_,hU⟩ lA hlA;rw[hyl,Rl,YC]at hU;have u7:=Zz4 (o:=.lst us) hlA
  have h7:(upd H6 lA<|.lst us) lA=some (.lst us):=Zz1;have hU7:=hU.same u7
  have s57:=s6.trans u7;generalize upd H6 lA (.lst us)=H7 at *;intro x dx nx ndx nex;have t1:Same H7 (upd (upd H7 dx<|.own x) x<|.ins t.A_Web dx []):=ZA (Zz4 ndx) (by rwa[Zd (YU nex)])
  refine⟨x,dx,n,lA,false,us,ps,Z,Zz1,λo=>?_,hU7.same t1,hG,λH8 hW k3=>⟨Z,?_⟩⟩
  ·exact(Zu nx t1).seq (SqL.of h7)
  have s8:Same H7 H8:=λb o e=>k3 b o (t1 b o e) (Ze e nx);have h8:=(s57.trans s8) _ _ h5
  have hB8:Bears (Zq5 H8) ys R:=hB5.imp λ_ _ zz=>by obtain⟨r,e,h⟩:=zz;exact⟨r,e,(s57.trans s8) _ _ h⟩
  refine⟨_,Z,p3,Z,⟨_,SqL.of h8⟩,Zx1 (K:=K) (a:=p3) (xs:=ys) (λi us H9=>H9=H8/\us=IL (ls.take i)) ⟨Z,Z⟩ (Zp O) (λi us H9 _ zz=>by obtain⟨e,h⟩:=zz;exact⟨e▸SqL.of h8,by rw[h,Zz8,Yp];lia⟩) ?_ ?_⟩
  ·rintro i v us H9 hi ⟨rfl,rfl⟩ XW hSS;obtain⟨row,hrow,r,rfl,hr⟩:=hB8.at hi;obtain⟨pp,l,hpp,hll,rfl⟩:=Rrow i row hrow;refine nmY ?_;refine⟨_,Z,r,_,2,.int l,Z,Z,SqL.of hr,Zw (n:=2) J Z,hSS _ _ ⟨Z,?_⟩⟩;rw[YD,hll];show IL (ls.take i)++[V.int l]=IL (ls.take i++[l])
   rw[Zr1]
  rintro us9 H9 ⟨rfl,rfl⟩ aA haA;rw[hyl,Rl,<-hl,YC];have u9:=Zz4 (o:=.lst<|IL ls) haA
  have sH9:=sH5.trans (s57.trans s8);refine⟨two,λtA htA=>?_⟩;have u10:=Zz4 (o:=.tup [.ref x,.ref aA]) htA
  exact q tA x aA _ (sH9.trans<|u9.trans u10) (sH9.free haA) Zz1 (hW.same<|u9.trans u10) (u10 _ _ Zz1)
noncomputable def spZR(K:PySem.W.Frag)(R:Addr):Sp:=λvs H Q E=>∃a ws,vs=[.ref a]/\SqL K H a (TL ws)/\(∀w∈ws,(w.cps.all λc=>decide<|c<128)=true/\w.length<=90000)/\ws.length<=90001/\
 (ws=[("-":Str)]->∀r H',Same H H'->H' r=some (.lst<|IL [])->Q (.ref r) H')/\(ws≠[("-":Str)]->∀l,ws=l.map nT->Told l->∀r H',Same H H'->H' r=some (.lst<|IL l)->Q (.ref r) H')/\(ws≠[("-":Str)]->(¬∃l,ws=l.map nT/\Told l)->∀H',Same H H'->E (.ref R) none H')
theorem Zg10{K:PySem.W.Frag}{H:Hp}{p q:Addr}{l m:List Str}(hp:SqL K H p (TL l))(hq:SqL K H q (TL m)):EqD K H 1 (.ref p) (.ref q) (decide (l=m)):=by
 refine Zz13 (n:=0) (R:=λv s=>v=V.str s) hp hq ⟨Zx l,λi s e=>⟨.str s,?_,Z⟩⟩ ⟨Zx m,λi s e=>⟨.str s,?_,Z⟩⟩ ?_
 ·unfold TL;rw[Yg,e];rfl
 ·unfold TL;rw[Yg,e];rfl
 ·rintro x y a b rfl rfl;have q:=EqD.flat (K:=K) (H:=H) (n:=0) (x:=.str a) (y:=.str b) Z rfl
  rwa[show eqV (.str a) (.str b)=decide (a=b) from by first|rfl|(show(a == b)=_;by_cases c:a=b<;>simp[c])]at q
theorem okZR(T:Txt K mg t):OkQ P w base (CXW P w) T.q_read_ties 3 (spZR K t.A_BadText):=by
 refine T.q_read_ties.okX ["words"] S (λvs H Q E h=>?_) (λcdv A outer s H vs Q E hr h=>?_)
 ·obtain⟨a,ws,rfl,_⟩:=h;rfl
 ·obtain⟨a,ws,rfl,hA,hpc,hwl,q1,q2,q3⟩:=h;refine⟨_,(Zz2 (Zz61 (Zi (Zq11 K<|hu8 hr) (pv 0) (ZT<|Zz0 Zr Zz3)<|Zq _)
   (Zz5<|Zk<|ZT Zz3)
   Zm)
   (Zz5<|Zk<|Zd13 pxM Z Z Z Z (sc0:=Zz9<|top 103) (N0:=["words"]) (N':=["word"]) (o:=1) (fr:=[]) ⟨Z,S,S,S,Z,S⟩ (ZS K<|pv 0) (ZE J) (λ_ _ _ _=>(Zf (i:=0) (show List.Nodup (["word"]:List Str) by decide +kernel) Z<|Or.inl Z)) (λ_ _ _ _=>ZP) λ_ _ _ _ _=>(Zx9 (okZO T) (hr.mono J) Z T.q_read_number.mm T.q_read_number.fn.kp T.q_read_number.bi .nil pxT<|Zz0 (pv 0) Zz3))),?_⟩
  have z1:100000<=sizeLine:=J;refine⟨_,Z,(by show 1<=sizeLine;decide),λd hd=>⟨1,_,a,d,Z,Z,J,Zg10 (l:=ws) (m:=["-"]) ((Zz4 hd).seq hA)<|SqL.of Zz1,_,Z,?_⟩⟩;have u1:=Zz4 (o:=.lst [.str "-"]) hd
  refine itd2 (λe=>?_) (λne=>?_)
  ·exact⟨Yr _,λr hr=>q1 e r _ (u1.trans<|Zz4 hr) Zz1⟩
  show(_:Prop);refine ZU3 ?_;have hA1:=u1.seq hA
  generalize upd H d (.lst [.str "-"])=H2 at *;refine⟨_,Z,a,Z,⟨_,hA1⟩,Zx1 (K:=K) (a:=a) (xs:=TL ws) (λi ys H3=>Same H2 H3/\∃l:List Int,l.length=i/\ws.take i=l.map nT/\Told l/\ys=IL l) ⟨Same.refl _,[],Z,Z,(λz hz=>by cases hz),Z⟩ (Zp<|by rw[Zx];lia) (λi ys H3 _ h=>by obtain⟨e,l,e1,_,_,ey⟩:=h;exact⟨e.seq hA1,by rw[ey,Zz8,e1];exact Yy6 _⟩) ?_ ?_⟩
  ·rintro i v ys H3 hi ⟨s3,l,e1,e2,e3,rfl⟩ XW hSS;obtain⟨x,rfl,hx⟩:=Zz19 hi;have hxp:=hpc x (Yy8 hx)
   refine nmY ?_;refine⟨_,Z,x,Z,hxp.1,O,λz hz h1 h2 H4 s4=>hSS _ _ ⟨s3.trans s4,l++[z],by rw[Yy3,e1];rfl,?_,?_,(Zr1 _ _).symm⟩,λhno H4 s4=>?_⟩
   ·rw[YD,hx,e2,hz,Yz];rfl
   ·intro y hy;rcases Yj.mp hy with q1|q1
    ·exact e3 y q1
    ·rw[Yy2.mp q1];exact⟨h1,h2⟩
   ·refine q3 ne (λ⟨l',f1,f3⟩=>hno ?_) H4 (u1.trans<|s3.trans s4);rw[f1,Yg]at hx;obtain⟨z,hz,hz2⟩:=Y1s.mp hx
    have:=f3 z (Yy8 hz)
    exact⟨z,hz2.symm,this.1,this.2⟩
  ·rintro ys H3 ⟨s3,l,e1,e2,e3,rfl⟩ p3 hp4;rw[Zx]at e1 e2;rw[YC]at e2;exact q2 ne l e2 e3 p3 _ (u1.trans<|s3.trans<|Zz4 hp4) Zz1
noncomputable def spZS(K:PySem.W.Frag):Sp:=λvs H Q _=>∃(a:Addr)(l:List Int),vs=[.ref a]/\SqL K H a (IL l)/\l.length<=1000/\Told l/\∀H':Hp,Same H H'->Q (.str<|Str.join Zs<|l.map nT) H'
theorem okZS(T:Txt K mg t):OkQ P w base CX0 T.q_numbers_text 1 (spZS K):=by
 refine T.q_numbers_text.ok ["numbers"] S (λvs H Q E h=>?_) (λcdv A outer s H vs Q E hr h=>?_)
 ·obtain⟨a,l,rfl,_⟩:=h;rfl
 ·obtain⟨a,l,rfl,hA,hll,hl,q⟩:=h;refine⟨_,(Zz5<|Zk<|Zk1 K Y0b Y1z Y1y (ZU2 K) Zr<|Zz0 (Zs5 Z (sc0:=Zz9<|top 89) (N0:=["numbers"]) (N':=["number"]) (o:=1) (fr:=[]) ⟨Z,S,S,S,Z,S⟩ (ZS K<|pv 0) (ZE J) (λ_ _ _ _=>(Zf (i:=0) (show List.Nodup (["number"]:List Str) by decide +kernel) Z<|Or.inl Z)) (λ_ _ _ _=>ZP) λ_ _ _ _=>(Zj ZI XS T.n_str Boot.«str»<|Zz0 (pv 0) Zz3)) Zz3),?_⟩;refine⟨Z,_,Z,a,Z,⟨_,hA⟩,Zx1 (K:=K) (a:=a) (xs:=IL l) (λi ys H3=>H3=H/\ys=TL ((l.take i).map nT)) ⟨Z,Z⟩ (Zp<|by rw[Zz8];omega) (λi ys H3 _ zz=>by obtain⟨e,ey⟩:=zz;exact⟨e▸hA,by rw[ey,Zx,Yy9,Yp];omega⟩) ?_ ?_⟩
  ·rintro i v ys H3 hi ⟨rfl,rfl⟩ XW hSS;obtain⟨z,rfl,hz⟩:=Zy1 hi;have hb:=hl z (Yy8 hz)
   refine nmY ?_;refine⟨_,Z,z,Z,XT,XT,hSS _ _ ⟨Z,?_⟩⟩;rw[YD,hz,Yz];exact ZC5 _ _
  rintro ys H3 ⟨rfl,rfl⟩ p hp;rw[Zz8,YC];refine⟨_,p,l.map nT,Z,Z,SqL.of Zz1,?_,q _<|Zz4 hp⟩;show JoinOk Zs _=true
  rw[Ze1];exact ZH4 (XU:=61) (Zc2 hl) (by rw[Yy9];omega)
noncomputable def spZT(K:PySem.W.Frag)(C R:Addr):Sp:=λvs H Q E=>∃(w a:Addr)(n:Int)(ps:List (Int×Int))(kd:Bool)(ls:List Int),vs=[.ref w,.ref a]/\WebAt C H w n ps/\ZL n ps/\SqK kd K H a (IL ls)/\Told ls/\
 (ls.length=ps.length->∀H':Hp,Same H H'->Q (.str<|Zr5 n ps ls) H')/\(ls.length≠ps.length->∀H':Hp,Same H H'->E (.ref R) none H')
theorem scZT:FnScope ["web","lengths","lines","ends","length"] ["web","lengths"] (Zz9 (top 90)):=Zf1 S
theorem okZT(T:Txt K mg t):OkQ P w base (CXW P w) T.q_web_text 2 (spZT K t.A_Web t.A_BadRow):=by
 refine T.q_web_text.okX ["web","lengths","lines","ends","length"] S (λvs H Q E h=>?_) (λcdv A outer s H vs Q E hr h=>?_)
 ·obtain⟨w,a,n,ps,kd,ls,rfl,_⟩:=h;rfl
 ·obtain⟨w,a,n,ps,kd,ls,rfl,hW,hG,hA,hT,q,qe⟩:=h;refine⟨_,(Zz2 (ZQ<|Zz6 (okZ9 T) hr T.q_refuse_bad_row pxs<|Zz0 (pv 0)<|Zz0 (pv 1) Zz3)
   (Zz2 (Zg (i:=2) scZT.nd Z (Or.inl Z)<|ZT<|Zz0 (Zn ZU Zr<|Zj ZI XS T.n_str Boot.«str»<|Zz0 (ZK K (pv 0) Z) Zz3) Zz3)
   (Zz2 (ZX Y2c Z (Zd11 K Z T.n_zip<|Zz0 (ZK K (pv 0) Z)<|Zz0 (pv 1) Zz3) (Zv1 (n:=2) K Z<|Zv (Zf (i:=3) scZT.nd Z<|Or.inl Z)<|Zv (Zf (i:=4) scZT.nd Z<|Or.inl Z) Zu1)
   (Zz5<|ZQ<|Zk1 K YY Yy06 Yy05 Zz91 (pv 2)<|Zz0 (Zn ZU Zr<|Zz6 (okZS T) hr T.q_numbers_text ZB<|Zz0 (ZT<|Zz0 (ZC (ZN K) (pv 3) Zz7 λ_ _=>rfl)<|Zz0 (ZC (ZN K) (pv 3) Zz7 λ_ _=>rfl)<|Zz0 (pv 4) Zz3) Zz3) Zz3))
   (Zz5<|Zk<|Zk1 K Y0b Y1z Y1y (ZU2 K) Zr<|Zz0 (pv 2) Zz3)))),?_⟩
  obtain⟨dx,tl,xs,g1,g2,g3⟩:=id hW;have hxl:=g3.1
  have hp30:=hG.2.2.1;have hn1:=hG.1
  have hn2:=hG.2.1;have one:1<=sizeLine:=J
  have three:3<=sizeLine:=J;have z1:100000<=sizeLine:=J
  refine⟨_,Z,_,Z,w,a,n,ps,kd,ls,Z,hW,hA,λheq=>?_,λhne=>qe hne H<|Same.refl _⟩;have q:=q heq
  have nl:=Zs3 (i:=n) (k:=60) J XT XT;refine⟨_,Z,w,_,dx,_,_,Z,g1,T.cl_Web,T.n_Web_places,Zz71 _ _,n,Z,XT,XT,_,_,Z,Z,?_,one,λd hd=>?_⟩
  ·show 7+(nT n).length<=_;omega
  have u1:=Zz4 (o:=.lst<|TL<|webT n (ps.take 0)<|ls.take 0) hd;refine nm ?_;dsimp only;refine⟨_,Z,w,_,dx,_,_,Z,u1 _ _ g1,T.cl_Web,T.n_Web_ties,ZF1 _ _,_,Z,tl,a,kd,Z,⟨_,_,SqL.of<|u1 _ _ g2,hA.same u1⟩,Zb10 (K:=K) (kd:=kd) (a:=tl) (b:=a) (xs:=xs) (ys:=IL ls) (by rw[Zz8];omega) (λi σ H4=>∃(v3 v4:Option V),σ=[some (.ref w),some<|.ref a,some<|.ref d,v3,v4]/\Same H H4/\H4 d=some (.lst<|TL<|webT n (ps.take i)<|ls.take i)) ⟨none,none,Z,u1,Zz1⟩ (λi σ H4 _ zz=>by obtain⟨_,_,_,e,_⟩:=zz;exact⟨SqL.of<|e _ _ g2,hA.same e⟩) ?_ ?_⟩
  ·rintro i v v' σ H4 pt hpt hi hi' ⟨v3,v4,rfl,s4,h4⟩;obtain⟨p,hp,tt,rfl,htt⟩:=g3.at hi;obtain⟨l,rfl,hl⟩:=Zy1 hi';have u2:=Zz4 (o:=.tup [.ref tt,.int l]) hpt
   refine⟨pt,_,Z,SqT.of Zz1,Z,_,_,Z,_,_,Z,Z,?_⟩;have s5:=s4.trans u2
   have h5:=u2 _ _ h4;generalize upd H4 pt (.tup [.ref tt,.int l])=H5 at *;have htold:=ZJ2 hG hT hp hl
   have hi1:=(Yy4.mp hp).1;refine⟨_,Z,.inl ⟨Z,_,SqL.of h5⟩,_,Z,tt,_,0,.int p.1,Z,Z,SqT.of<|s5 _ _ htt,Z,_,Z,tt,_,1,.int p.2,Z,Z,SqT.of<|s5 _ _ htt,Z,_,Z,three,λc hc=>⟨c,[p.1,p.2,l],Z,SqL.of Zz1,(show 3<=1000 by decide),htold,λH6 s6=>?_⟩⟩;have s56:=(Zz4 (o:=.lst [.int p.1,.int p.2,.int l]) hc).trans s6
   have h6:=s56 _ _ h5;have wl:(webT n (ps.take i)<|ls.take i).length<=31:=by rw[Zc3 (by rw[Yp,Yp];omega),Yp];omega
   have ll:=Zq6 htold;have e2:Str.ofString "tie "++Str.join Zs ([p.1,p.2,l].map nT)=Zz04 p l:=ZF11 _ _ _
   have el:4+(Str.join Zs<|[p.1,p.2,l].map nT).length=(Zz04 p l).length:=by rw[<-e2,Zz81,Zz81<|_++_,Y2H,Y1K,Yy3];rfl
   refine⟨_,_,Z,Z,?_,?_⟩
   ·show 4+(Str.join Zs<|[p.1,p.2,l].map nT).length<=_;omega
   rw[e2];refine⟨d,_,_,Z,Z,h6,Zp (by rw[Zx];omega),_,_,Z,Zu hd<|s5.trans s56,?_⟩;rw[Zz1,ZC5,Zk4 hp hl]
  rintro σ H4 ⟨v3,v4,rfl,s4,h4⟩;rw[hxl,YC,<-heq,YC]at h4;refine⟨Z,_,Z,_,d,_,Z,Z,SqL.of h4,?_,q H4 s4⟩;show JoinOk nlS _=true
  rw[ZD12];exact ZH4 (XU:=400) (ZI3 hG hT) (by rw[Zc3 heq];omega)
noncomputable def AskR(H:Hp)(E:XK)(n:Int)(ps:List (Int×Int))(line:Str)(BT NS NT BS PA:Addr):Prop:=
 (badL (Txt.split line Zs)=true->∀H',Same H H'->E (.ref BT) none H')/\(badL (Txt.split line Zs)=false->
 (∃z nm,Txt.split line Zs=[nm,nT z]/\(nm="tree"\/nm="row")/\-(10^60)<z/\z<10^60/\(∀c:Nat,TC n ps c->0<=z->(c:Int)<=z)/\∀H',Same H H'->E (.ref NS) none H')\/
 (∃zs nm,Txt.split line Zs=nm::zs.map nT/\Told zs/\(nm="number"\/nm="place"\/nm="next")/\¬Zo n ps zs/\∀H',Same H H'->E (.ref NT) none H')\/
 (∃zs,Txt.split line Zs=("share":Str)::zs.map nT/\Told zs/\¬IsSet ps.length zs/\∀H',Same H H'->E (.ref BS) none H')\/
 ((∀U,¬Zo n ps U)/\(Txt.split line Zs=[("cheapest":Str)]\/Txt.split line Zs=[("share":Str),("-":Str)])/\∀H',Same H H'->E (.ref PA) none H'))
noncomputable def spZU(K:PySem.W.Frag)(C BT NS NT BS PA:Addr):Sp:=λvs H Q E=>∃w b n ps ls line,vs=[.ref w,.ref b,.str line]/\WebAt C H w n ps/\ZL n ps/\SqL K H b (IL ls)/\ls.length=ps.length/\(line.cps.all λc=>decide<|c<128)=true/\line.length<=90000/\AskR H E n ps line BT NS NT BS PA
theorem scZU:FnScope ["web","lengths","line","words","name"] ["web","lengths","line"] (Zz9 (top 104)):=Zf1 S
theorem okZU(T:Txt K mg t):OkQ P w base (CXW P w) T.q_answer_to 12 (spZU K t.A_Web t.A_BadText t.A_NoSuch t.A_NoTree t.A_BadSet t.A_Parted):=by
 refine T.q_answer_to.okX ["web","lengths","line","words","name"] S (λvs H Q E h=>?_) (λcdv A outer s H vs Q E hr h=>?_)
 ·obtain⟨w,b,n,ps,ls,line,rfl,_⟩:=h;rfl
 ·obtain⟨w,b,n,ps,ls,line,rfl,hW,hG,hS,hll,ha,hl,q0,qq⟩:=h;refine⟨_,(Zz2 (Zg (i:=3) scZU.nd Z (Or.inl Z)<|Zk1 K Y0b Y0D Yy25 ZX3 (pv 2)<|Zz0 Zr Zz3)
   (Zz2 (Zg (i:=4) scZU.nd Z (Or.inl Z)<|ZC (Zb K) (pv 3) Zz7 λ_ _=>rfl)
   (Zz2 (Zz61 (PW.pt<|Zc5 (Zi (ZA9 K) (pv 4) (Zq1 (v:=V.ref T.g_ALONE.choose) Z T.g_ALONE.choose_spec.1 Z) Z)<|ZC2<|Zi Zz32 (Zc (Zh K) XS T.n_len Boot.«len»<|Zz0 (pv 3) Zz3) Zz7<|Zq _)
   (Zz5<|Zk<|Zz6 (okZI T) hr T.q_answer_alone pxs<|Zz0 (pv 0)<|Zz0 (pv 1)<|Zz0 (pv 4) Zz3)
   Zm)
   (Zz2 (Zz61 (PW.pt<|Zc5 (Zi (ZA9 K) (pv 4) (Zq1 (v:=V.ref T.g_OF_A_NUMBER.choose) Z T.g_OF_A_NUMBER.choose_spec.1 Z) Z)<|ZC2<|Zi Zz32 (Zc (Zh K) XS T.n_len Boot.«len»<|Zz0 (pv 3) Zz3) Zz7<|Zq _)
   (Zz5<|Zk<|Zz6 (okZK T) hr T.q_answer_of_number pxs<|Zz0 (pv 0)<|Zz0 (pv 1)<|Zz0 (pv 4)<|Zz0 (Zz6 (okZO T) hr T.q_read_number pxs<|Zz0 (ZC (Zb K) (pv 3) Zz7 λ_ _=>rfl) Zz3) Zz3)
   Zm)
   (Zz2 (Zz61 (PW.pt<|Zc5 (Zi (ZA9 K) (pv 4) (Zq1 (v:=V.ref T.g_OF_TIES.choose) Z T.g_OF_TIES.choose_spec.1 Z) Z)<|ZC2<|Zi Zf8 (Zc (Zh K) XS T.n_len Boot.«len»<|Zz0 (pv 3) Zz3) Zz7<|Zq _)
   (Zz5<|Zk<|Zz6 (okZM T) hr T.q_answer_of_ties pxs<|Zz0 (pv 0)<|Zz0 (pv 4)<|Zz0 (Zz6 (okZR T) hr T.q_read_ties pxs<|Zz0 (ZW (Zz11 K) (pv 3) (Zn1 Zz7) Zo1) Zz3) Zz3)
   Zm)
   (Zz5<|Zj1 T.x_BadText T.c_BadText<|Zz0 Zr Zz3)))))),?_⟩
  have z1:100000<=sizeLine:=J;have many1:=ZI5 line 32
  rw[<-Ze1]at many1;have hpc:∀p∈Txt.split line Zs,(p.cps.all λc=>decide<|c<128)=true/\p.length<=90000:=λp hp=>by
   rw[Ze1]at hp
   have:=(ZA2 hp).1
   exact⟨Zz75 hp ha,XT⟩
  have hne:=ZH5 line Zs;refine⟨_,Z,Z,_,_,Z,Z,Z,XT,?_,λp hp=>?_⟩
  ·show(Txt.split _ Zs).length<=_;omega
  have e:Txt.split line (Str.ofString " ")=Txt.split line Zs:=rfl;rw[e];have u1:=Zz4 (o:=.lst<|TL<|Txt.split line Zs) hp
  have hp1:(upd H p<|.lst<|TL<|Txt.split line Zs) p=some (.lst<|TL<|Txt.split line Zs):=Zz1;generalize upd H p (.lst<|TL<|Txt.split line Zs)=H1 at *;obtain⟨w0,ws,hw⟩:∃w0 ws,Txt.split line Zs=w0::ws:=List.exists_cons_of_ne_nil hne;rw[hw]at hp1 hpc many1 q0 qq;refine nm ?_;dsimp only;refine⟨_,Z,p,_,0,.str w0,Z,Z,SqL.of hp1,Zw (n:=0) J Z,?_⟩;refine nm ?_;dsimp only;have hS1:=u1.seq hS
  have hW1:=hW.same u1;have txt:∀{l:List Str}{a:Addr}(Q:Bool->Hp->Prop),TupC K a (l.map V.str)->Q (decide<|w0∈l) H1->∃p xs,V.ref a=V.ref p/\(SqL K H1 p xs\/SqT K H1 p xs)/\Zz54 (.str w0)=true/\xs.all Zz54=true/\∃k,V.bl (inV (.str w0) xs)=V.bl k/\Q k H1:=λ{l a} Q h q=>⟨a,l.map V.str,Z,.inr<|h.sq H1,Z,by rw[List.all_map];exact Yy03.mpr λ_ _=>rfl,_,Z,by rwa[ZV11]⟩
  have notNum:∀z:Int,-(10^60)<z->z<10^60->nT z≠("-":Str):=λz h1 h2 e=>by
   have:=num_iff.mpr ⟨z,Z,h1,h2⟩
   rw[e]at this;exact absurd this S
  have notNums:∀l:List Int,Told l->l.map nT≠[("-":Str)]:=λl hl e=>by
   cases l with
   |nil=>cases e
   |cons z r=>
    have hz:=hl z Yb;exact notNum z hz.1 hz.2 (YB e).1
  have dis:∀x∈Za6,x∉Zn5/\x∉ZO1:=S;have dis2:∀x∈ZO1,x∉Zn5:=S
  have no1:∀x:Str,(x="number"\/x="place"\/x="next")->x∉Zn5:=λx h=>by rcases h with rfl|rfl|rfl<;>decide +kernel
  have no2:∀x:Str,(x="number"\/x="place"\/x="next")->x∉Za6:=λx h=>by rcases h with rfl|rfl|rfl<;>decide +kernel
  refine Zz97 (w0∈Zn5) (ws.length+1=1) (λQ q=>?_) (λQ q=>?_) (λc1 c2=>?_) (λnA=>?_)
  ·exact⟨_,Z,txt (l:=Zn5) Q T.g_ALONE.choose_spec.2 q⟩
  ·refine⟨_,Z,p,_,Z,.inl<|SqL.of hp1,Z,_,Z,?_⟩;rwa[Zx,Yq,Zz,show decide (((ws.length+1:Nat):Int)=1)=decide (ws.length+1=1) from Y1c.mpr XT]
  ·obtain rfl:ws=[]:=YH.mp XT;rcases qq (good_iff.mpr<|.inl ⟨c1,rfl⟩) with ⟨z,nm,e,_⟩|⟨zs,nm,e,_,hn,_⟩|⟨zs,e,_⟩|⟨hno,e,q5⟩
   ·exact absurd (YB e).2 B
   ·rw[(YB e).1]at c1;exact absurd c1 (no1 nm hn)
   ·rw[(YB e).1]at c1;exact absurd c1 S
   ·rcases e with e|e
    ·obtain rfl:=(YB e).1;exact⟨_,Z,_,Z,_,Z,w,b,n,ps,ls,Z,hW1,hG,hS1,hll,hno,λH' s'=>q5 H'<|u1.trans s'⟩
    ·exact absurd (YB e).2 B
  show(_:Prop);refine ZU3 ?_;refine Zz97 (w0∈Za6) (ws.length+1=2) (λQ q=>?_) (λQ q=>?_) (λc1 c2=>?_) (λnB=>?_)
  ·exact⟨_,Z,txt (l:=Za6) Q T.g_OF_A_NUMBER.choose_spec.2 q⟩
  ·refine⟨_,Z,p,_,Z,.inl<|SqL.of hp1,Z,_,Z,?_⟩;rwa[Zx,Yq,Zz,show decide (((ws.length+1:Nat):Int)=2)=decide (ws.length+1=2) from Y1c.mpr XT]
  ·obtain⟨w1,rfl⟩:∃w1,ws=[w1]:=Yy28.mp XT;have h1:=hpc w1 (Yc _ Yb)
   refine⟨_,Z,_,Z,_,Z,_,Z,p,_,1,.str w1,Z,Z,SqL.of hp1,Zw (n:=1) J Z,w1,Z,h1.1,XT,λi hi i1 i2 H2 s2=>?_,λhno H2 s2=>?_⟩
   ·rcases qq (good_iff.mpr<|.inr<|.inl ⟨c1,c2,nums_iff.mpr ⟨[i],by rw[hi];rfl,λz hz=>by rw[Yy2.mp hz];exact⟨i1,i2⟩⟩⟩) with ⟨z,nm,e,hn,k1,k2,hz,q2⟩|⟨zs,nm,e,_,hn,_⟩|⟨zs,e,_⟩|⟨_,e,_⟩
    ·obtain rfl:=(YB e).1;obtain rfl:=ZJ9 (k:=60) J J i1 i2 k1 k2 (hi.symm.trans (YB (YB e).2).1);exact⟨w,b,n,ps,i,w0,Z,hn,hW1.same s2,hG,Y2R J i1,Y2R i2 J,hz,λH' s'=>q2 H'<|u1.trans<|s2.trans s'⟩
    ·rw[(YB e).1]at c1;exact absurd c1 (no2 nm hn)
    ·rw[(YB e).1]at c1;exact absurd c1 S
    ·rcases e with e|e<;>rw[(YB e).1]at c1<;>exact absurd c1 S
   ·refine q0 (bad_iff.mpr λg=>hno ?_) H2 (u1.trans s2);rcases g with ⟨a,_⟩|⟨_,_,a⟩|⟨a,_⟩
    ·exact absurd a (dis w0 c1).1
    ·obtain⟨l,e,ht⟩:=nums_iff.mp a;cases l with
     |nil=>cases e
     |cons z r=>
      have hz:=ht z Yb;exact⟨z,(YB e).1,hz.1,hz.2⟩
    ·exact absurd a (dis w0 c1).2
  show(_:Prop);refine ZU3 ?_;refine Zz97 (w0∈ZO1) (1<ws.length+1) (λQ q=>?_) (λQ q=>?_) (λc1 c2=>?_) (λnC=>?_)
  ·exact⟨_,Z,txt (l:=ZO1) Q T.g_OF_TIES.choose_spec.2 q⟩
  ·refine⟨_,Z,p,_,Z,.inl<|SqL.of hp1,_,_,Z,Z,_,Z,?_⟩;rwa[Zx,Yq,show decide ((1:Int)<((ws.length+1:Nat):Int))=decide (1<ws.length+1) from Y1c.mpr XT]
  ·refine⟨_,Z,_,Z,_,Z,_,Z,p,_,Z,SqL.of hp1,λp2 hp2=>?_⟩;rw[ZS1 J];have e2:(TL<|w0::ws).drop (1:Int).toNat=TL ws:=rfl
   rw[e2];have u2:=Zz4 (o:=.lst<|TL ws) hp2
   have hp3:(upd H1 p2<|.lst<|TL ws) p2=some (.lst<|TL ws):=Zz1;generalize upd H1 p2 (.lst<|TL ws)=H2 at *;refine⟨p2,ws,Z,SqL.of hp3,λx hx=>hpc x<|Yc _ hx,by rw[Yq]at many1;omega,λe r H3 s3 hr3=>?_,λne l el hl r H3 s3 hr3=>?_,λne hno H3 s3=>?_⟩
   ·have hg:=qq (good_iff.mpr<|.inr<|.inr ⟨c1,c2,.inl e⟩);subst e;rcases hg with ⟨z,nm,e,hn,k1,k2,_⟩|⟨zs,nm,e,ht,_⟩|⟨zs,e,ht,_⟩|⟨hno,e,q5⟩
    ·exact absurd (YB (YB e).2).1.symm (notNum z k1 k2)
    ·exact absurd (YB e).2.symm (notNums zs ht)
    ·exact absurd (YB e).2.symm (notNums zs ht)
    ·rcases e with e|e
     ·exact absurd (YB e).2 B
     ·obtain rfl:=(YB e).1;exact⟨w,r,n,ps,false,[],_,Z,(hW1.same u2).same s3,hG,SqL.of hr3,.inr ⟨Z,λh=>absurd (λi z e=>by cases e) h,λ_=>⟨λhJ=>(by obtain⟨U,hU,_⟩:=ZP10 hG (ZR5 ps.length) hJ;exact hno U hU),λH' s'=>q5 H'<|u1.trans<|u2.trans<|s3.trans s'⟩⟩⟩
   ·rcases qq (good_iff.mpr<|.inr<|.inr ⟨c1,c2,.inr<|nums_iff.mpr ⟨l,el,hl⟩⟩) with ⟨z,nm,e,hn,_⟩|⟨zs,nm,e,ht,hn,hnt,q3⟩|⟨zs,e,ht,hns,q4⟩|⟨hno,e,q5⟩
    ·rw[(YB e).1]at c1;exact absurd c1 (by rcases hn with rfl|rfl<;>decide +kernel)
    ·obtain rfl:=(YB e).1;obtain rfl:=Zb6 hl ht (el.symm.trans (YB e).2);exact⟨w,r,n,ps,false,l,w0,Z,(hW1.same u2).same s3,hG,SqL.of hr3,.inl ⟨hn,hnt,λH' s'=>q3 H'<|u1.trans<|u2.trans<|s3.trans s'⟩⟩
    ·obtain rfl:=(YB e).1;obtain rfl:=Zb6 hl ht (el.symm.trans (YB e).2);exact⟨w,r,n,ps,false,l,_,Z,(hW1.same u2).same s3,hG,SqL.of hr3,.inr ⟨Z,λ_=>q4 H3<|u1.trans<|u2.trans s3,λh=>absurd h hns⟩⟩
    ·rcases e with e|e
     ·rw[(YB e).1]at c1;exact absurd c1 S
     ·exact absurd (YB e).2 ne
   ·refine q0 (bad_iff.mpr λg=>hno ?_) H3 (u1.trans<|u2.trans s3);rcases g with ⟨a,_⟩|⟨a,_⟩|⟨_,_,a⟩
    ·exact absurd a (dis2 w0 c1)
    ·exact absurd c1 (dis w0 a).2
    ·rcases a with a|a
     ·exact absurd a ne
     ·exact nums_iff.mp a
  show(_:Prop);refine ZU3 ?_;refine⟨by show 1<=sizeLine;decide,q0 (bad_iff.mpr λg=>?_) H1 u1⟩;rcases g with ⟨a,b⟩|⟨a,b,_⟩|⟨a,b,_⟩
  ·exact nA ⟨a,b⟩
  ·exact nB ⟨a,b⟩
  ·exact nC ⟨a,b⟩
noncomputable def ZM3(K:PySem.W.Frag)(CD C:Addr):Sp:=λvs H Q _=>∃(x dx:Addr)(T:Tr),vs=[.ref x,.str (Zr5 T.1 T.2.1 T.2.2)]/\H x=some (.ins CD dx [])/\OkT T/\
 ∀(d:Addr)(z:V)(H':Hp),(∀b o,H b=some o->b≠x->H' b=some o)->H d=none->DeskAt CD H' x d [z]->StageV C H' z T->Q .non H'
theorem scZV:FnScope ["self","text"] ["self","text"] (Zz9 sZV):=Zf1 S
theorem okZV (T:Txt K mg t):FnOk P w K mg base CX0 5 t.aZV t.dZV ["self","text"] (ZM3 K t.A_Desk t.A_Web):=by
 refine T.fZV.ok scZV (λvs H Q E h=>?_) (λcdv A outer s H vs Q E hr h=>?_)
 ·obtain⟨x,dx,T',rfl,_⟩:=h;rfl
 ·obtain⟨x,dx,T',rfl,hx,⟨g,hl,hT⟩,q⟩:=h;refine⟨_,(Zz5<|Zm9 (pv 0) (ZT<|Zz0 (Zz6 (okZQ T) hr T.q_read_web ZB<|Zz0 (pv 1) Zz3) Zz3) Z),?_⟩;have one:1<=sizeLine:=J
  refine⟨_,Z,T'.1,T'.2.1,T'.2.2,Z,g,hl,hT,λtA w a H1 s1 ha0 htA hW haA=>⟨one,λd hd=>?_⟩⟩;have u2:=Zz4 (o:=.lst [.ref tA]) hd
  have s2:=s1.trans u2;have hx2:=s2 _ _ hx
  refine⟨_,Z,x,_,dx,_,Z,hx2,T.cl_Desk,T.n_Desk_stages,(by show 0<1000;decide),?_⟩;have nxd:x≠d:=λe=>by subst e;rw[s1 _ _ hx]at hd;cases hd
  have ntx:tA≠x:=λe=>by subst e;rw[s1 _ _ hx]at htA;cases htA
  have nax:a≠x:=λe=>by subst e;rw[s1 _ _ hx]at haA;cases haA
  have hd2:(upd H1 d<|.lst [.ref tA]) d=some (.lst [.ref tA]):=Zz1;refine q d (.ref tA) _ (λb o e hb=>by rw[Zd hb];exact s2 _ _ e) (s1.free hd) ⟨dx,Zz1,by rwa[Zd (YU nxd)]⟩ ⟨tA,w,a,Z,by rw[Zd ntx];exact u2 _ _ htA,?_,by rw[Zd nax];exact u2 _ _ haA⟩;obtain⟨dw,tl,xs,g1,g2,g3⟩:=hW.same u2;have nwx:w≠x:=λe=>by
   subst e;rw[hx2]at g1
   have:=YX (λo=>match o with|some (HO.ins _ _ fs)=>fs.length|_=>0) g1
   exact absurd this (by show ¬0=2;decide)
  have ntl:tl≠x:=λe=>by subst e;rw[hx2]at g2;cases g2
  refine⟨dw,tl,xs,by rw[Zd nwx];exact g1,by rw[Zd ntl];exact g2,g3.1,λi p e=>?_⟩;obtain⟨v,e1,tt,e2,e3⟩:=g3.2 i p e;exact⟨v,e1,tt,e2,by rwa[Zd (λz=>by subst z;rw[hx2]at e3;cases e3)]⟩
noncomputable def spZW(K:PySem.W.Frag)(CD:Addr):Sp:=λvs H Q _=>∃(x d t w a:Addr)(zs:List V),vs=[.ref x]/\DeskAt CD H x d (zs++[.ref t])/\H t=some (.tup [.ref w,.ref a])/\zs.length<=1000/\Q (.ref w) H
theorem scZW:FnScope ["self"] ["self"] (Zz9 sZW):=Zf1 S
theorem okZW (T:Txt K mg t):FnOk P w K mg base CX0 1 t.aZW t.dZW ["self"] (spZW K t.A_Desk):=by
 refine T.fZW.ok scZW (λvs H Q E h=>?_) (λcdv A outer s H vs Q E hr h=>?_)
 ·obtain⟨x,d,tA,w,a,zs,rfl,_⟩:=h;rfl
 ·obtain⟨x,d,tA,w,a,zs,rfl,⟨dx,hx,hd⟩,ht,hz,q⟩:=h;refine⟨_,(Zz5<|Zk<|ZC (ZN K) (ZC (Zb K) (ZK K (pv 0) Z) (Zn Zz22 (Zc (Zh K) XS T.n_len Boot.«len»<|Zz0 (ZK K (pv 0) Z) Zz3) Zz7) λ_ _=>rfl) Zz7 λ_ _=>rfl),?_⟩;exact⟨_,Z,x,_,dx,_,_,Z,hx,T.cl_Desk,T.n_Desk_stages,Zz72 d,_,Z,x,_,dx,_,_,Z,hx,T.cl_Desk,T.n_Desk_stages,Zz72 d,d,_,Z,.inl<|SqL.of hd,_,_,Z,Z,d,_,_,.ref tA,Z,Z,SqL.of hd,Zw (n:=zs.length) (by rw[Yy3,Yw];omega) B,tA,_,0,.ref w,Z,Z,SqT.of ht,Z,q⟩
noncomputable def spZX(K:PySem.W.Frag)(CD:Addr):Sp:=λvs H Q _=>∃(x d t w a:Addr)(zs:List V),vs=[.ref x]/\DeskAt CD H x d (zs++[.ref t])/\H t=some (.tup [.ref w,.ref a])/\zs.length<=1000/\Q (.ref a) H
theorem scZX:FnScope ["self"] ["self"] (Zz9 sZX):=Zf1 S
theorem okZX (T:Txt K mg t):FnOk P w K mg base CX0 1 t.aZX t.dZX ["self"] (spZX K t.A_Desk):=by
 refine T.fZX.ok scZX (λvs H Q E h=>?_) (λcdv A outer s H vs Q E hr h=>?_)
 ·obtain⟨x,d,tA,w,a,zs,rfl,_⟩:=h;rfl
 ·obtain⟨x,d,tA,w,a,zs,rfl,⟨dx,hx,hd⟩,ht,hz,q⟩:=h;refine⟨_,(Zz5<|Zk<|ZC (ZN K) (ZC (Zb K) (ZK K (pv 0) Z) (Zn Zz22 (Zc (Zh K) XS T.n_len Boot.«len»<|Zz0 (ZK K (pv 0) Z) Zz3) Zz7) λ_ _=>rfl) Zz7 λ_ _=>rfl),?_⟩;exact⟨_,Z,x,_,dx,_,_,Z,hx,T.cl_Desk,T.n_Desk_stages,Zz72 d,_,Z,x,_,dx,_,_,Z,hx,T.cl_Desk,T.n_Desk_stages,Zz72 d,d,_,Z,.inl<|SqL.of hd,_,_,Z,Z,d,_,_,.ref tA,Z,Z,SqL.of hd,Zw (n:=zs.length) (by rw[Yy3,Yw];omega) B,tA,_,1,.ref a,Z,Z,SqT.of ht,Z,q⟩
noncomputable def spZY(K:PySem.W.Frag)(CD C:Addr):Sp:=λvs H Q _=>∃(x d:Addr)(zs:List V)(z:V)(T:Tr),vs=[.ref x]/\DeskAt CD H x d (zs++[z])/\StageV C H z T/\OkT T/\zs.length<=1000/\∀H':Hp,Same H H'->Q (.str<|Zr5 T.1 T.2.1 T.2.2) H'
theorem scZY:FnScope ["self"] ["self"] (Zz9 sZY):=Zf1 S
theorem okZY (T:Txt K mg t):FnOk P w K mg base CX0 3 t.aZY t.dZY ["self"] (spZY K t.A_Desk t.A_Web):=by
 refine T.fZY.ok scZY (λvs H Q E h=>?_) (λcdv A outer s H vs Q E hr h=>?_)
 ·obtain⟨x,d,zs,z,T',rfl,_⟩:=h;rfl
 ·obtain⟨x,d,zs,z,T',rfl,hD,⟨tA,w,a,rfl,ht,hW,hA⟩,⟨g,hl,hT⟩,hz,q⟩:=h;refine⟨_,(Zz5<|Zk<|Zz6 (okZT T) hr T.q_web_text Zg13<|Zz0 (Zi2 (pv 0) T.cl_Desk T.me_Desk_web_now (okZW T) (hr.mono J) T.bZW .nil ZB)<|Zz0 (Zi2 (pv 0) T.cl_Desk T.me_Desk_lengths_now (okZX T) (hr.mono J) T.bZX .nil ZB) Zz3),?_⟩;obtain⟨dx,hx,hd⟩:=id hD;exact⟨_,Z,x,dx,_,Z,hx,XS,x,d,tA,w,a,zs,Z,hD,ht,hz,_,Z,x,dx,_,Z,hx,XS,x,d,tA,w,a,zs,Z,hD,ht,hz,w,a,T'.1,T'.2.1,false,T'.2.2,Z,hW,g,SqL.of hA,hT,λ_ H1 s1=>q H1 s1,λh=>absurd hl h⟩
noncomputable def spZZ(K:PySem.W.Frag)(CD C BT NS NT BS PA:Addr):Sp:=λvs H Q E=>∃(x d:Addr)(zs:List V)(z:V)(T:Tr)(line:Str),vs=[.ref x,.str line]/\DeskAt CD H x d (zs++[z])/\StageV C H z T/\OkT T/\zs.length<=1000/\(line.cps.all λc=>decide<|c<128)=true/\line.length<=90000/\AskR H E T.1 T.2.1 line BT NS NT BS PA
theorem scZZ:FnScope ["self","line"] ["self","line"] (Zz9 sZZ):=Zf1 S
theorem okZZ (T:Txt K mg t):FnOk P w K mg base (CXW P w) 13 t.aZZ t.dZZ ["self","line"] (spZZ K t.A_Desk t.A_Web t.A_BadText t.A_NoSuch t.A_NoTree t.A_BadSet t.A_Parted):=by
 refine T.fZZ.okX scZZ (λvs H Q E h=>?_) (λcdv A outer s H vs Q E hr h=>?_)
 ·obtain⟨x,d,zs,z,T',line,rfl,_⟩:=h;rfl
 ·obtain⟨x,d,zs,z,T',line,rfl,hD,⟨tA,w,a,rfl,ht,hW,hA⟩,⟨g,hl,hT⟩,hz,ha,hll,q⟩:=h;refine⟨_,(Zz5<|Zk<|Zz6 (okZU T) hr T.q_answer_to pxs<|Zz0 (Zi2 (pv 0) T.cl_Desk T.me_Desk_web_now (okZW T) (hr.mono J) T.bZW .nil ZB)<|Zz0 (Zi2 (pv 0) T.cl_Desk T.me_Desk_lengths_now (okZX T) (hr.mono J) T.bZX .nil ZB)<|Zz0 (pv 1) Zz3),?_⟩;obtain⟨dx,hx,hd⟩:=id hD;exact⟨_,Z,x,dx,_,Z,hx,XS,x,d,tA,w,a,zs,Z,hD,ht,hz,_,Z,x,dx,_,Z,hx,XS,x,d,tA,w,a,zs,Z,hD,ht,hz,_,Z,w,a,T'.1,T'.2.1,T'.2.2,line,Z,hW,g,SqL.of hA,hl,ha,hll,q⟩
noncomputable def Zb14(K:PySem.W.Frag):Sp:=λvs H Q _=>∃a ns k,vs=[.ref a,.int k]/\SqL K H a (IL ns)/\0<=k/\∀r:Int,0<=r->r<10^60->Q (.int r) H
theorem Zl13(T:Txt K mg t):OkQ P w base CX0 T.q_law_cell 1 (Zb14 K):=by
 refine T.q_law_cell.ok ["script","k"] S (λvs H Q E h=>?_) (λcdv A outer s H vs Q E hr h=>?_)
 ·obtain⟨a,ns,k,rfl,_⟩:=h;rfl
 ·obtain⟨a,ns,k,rfl,hS,hk,q⟩:=h;refine⟨_,(Zz2 (Zz61 (Zi Zr7 (pv 1) (Zc (Zh K) XS T.n_len Boot.«len»<|Zz0 (pv 0) Zz3)<|Zq _)
   (Zz5<|Zk<|Zn ZM (ZC (Zb K) (pv 0) (pv 1) λ_ _=>rfl)<|Zn Zp3 Zz7 Zz7)
   Zm)
   (Zz5<|Zk Zz7)),?_⟩
  refine⟨_,Z,_,Z,a,_,Z,.inl hS,_,_,Z,Z,_,Z,?_⟩;refine ite2 (λhc=>?_) (λ_=>?_)
  ·have hc:=YO hc;rw[Zz8]at hc;obtain⟨z,hz⟩:∃z,ns[k.toNat]?=some z:=⟨_,Yy0 O⟩;refine⟨_,Z,_,Z,a,_,k,.int z,Z,Z,hS,Zw (n:=k.toNat) O (by rw[Yg,hz];rfl),_,_,Z,Z,⟨J,J,J⟩,_,_,Z,Z,?_,?_⟩
   ·show(0:Int)<10^60;decide
   ·exact q _ (YW _ J) (YZ _ J)
  ·exact q 0 J J
noncomputable def Za14:Sp:=λvs H Q _=>∃c k,vs=[.int c,.int k]/\∀r:Int,0<=r->r<2147483587->Q (.int r) H
theorem scZ11:FnScope ["cell","k","first","second"] ["cell","k"] (Zz9 (top 109)):=Zf1 S
theorem Zk13(T:Txt K mg t):OkQ P w base CX0 T.q_law_mixed 1 Za14:=by
 refine T.q_law_mixed.ok ["cell","k","first","second"] S (λvs H Q E h=>?_) (λcdv A outer s H vs Q E hr h=>?_)
 ·obtain⟨c,k,rfl,_⟩:=h;rfl
 ·obtain⟨c,k,rfl,q⟩:=h;refine⟨_,(Zz2 (Zg (i:=2) scZ11.nd Z (Or.inl Z)<|Zn ZM (Zn Zk2 (Zn Zc1 (Zn Zc1 (pv 0)<|Zn Zk2 Zz7<|pv 1) Zz7) Zz7) Zz7)
   (Zz2 (Zg (i:=3) scZ11.nd Z (Or.inl Z)<|Zn ZM (Zn Zc1 (Zn Zc1 (Zn Zk2 (pv 2)<|pv 2)<|Zn Zk2 Zz7<|pv 1) Zz7) Zz7)
   (Zz5<|Zk<|Zn Zg1 (Zn ZM (Zn Zk2 (pv 3)<|pv 3) Zz7) Zz7))),?_⟩
  refine⟨_,Z,_,Z,_,_,Z,Z,.inl ⟨J,J⟩,_,_,Z,Z,_,_,Z,Z,_,_,Z,Z,.inr ⟨J,J⟩,_,_,Z,Z,(by show(0:Int)<2147483647;decide),?_⟩;have f0:0<=((c+7919*k+1)*48271)%2147483647:=YW _ J
  have f1:((c+7919*k+1)*48271)%2147483647<2147483647:=YZ _ J;refine⟨_,Z,_,Z,_,_,Z,Z,.inl ⟨XR,XR⟩,_,Z,_,_,Z,Z,.inl ⟨J,J⟩,_,_,Z,Z,_,_,Z,Z,_,_,Z,Z,(by show(0:Int)<2147483629;decide),?_⟩;generalize ((c+7919*k+1)*48271)%2147483647=u at *;have g0:0<=(u*u+40692*k+3)%2147483629:=YW _ J
  have g1:(u*u+40692*k+3)%2147483629<2147483629:=YZ _ J;refine⟨_,Z,_,Z,_,_,Z,Z,.inl ⟨XR,XR⟩,_,_,Z,Z,(by show(0:Int)<2147483587;decide),_,_,Z,Z,⟨J,J⟩,?_⟩;generalize (u*u+40692*k+3)%2147483629=v at *;have h0:0<=(v*v)%2147483587:=YW _ J
  have h1:(v*v)%2147483587<2147483587:=YZ _ J;generalize (v*v)%2147483587=x at *;exact q _ O O
theorem Zh4{p:Int->Prop}{l:List Int}{x:Int}(h:∀z∈l,p z)(hx:p x):∀z∈l++[x],p z:=λz hz=>by
 rcases Yj.mp hz with q|q
 ·exact h z q
 ·rwa[Yy2.mp q]
noncomputable def Zz914(K:PySem.W.Frag):Sp:=λvs H Q _=>∃(a:Addr)(ns:List Int)(st c:Nat)(way:Int),vs=[.ref a,.int st,.int c,.int way]/\SqL K H a (IL ns)/\ns.length<=63/\st<=63/\c<=100/\
 ∀l ds H',Same H H'->H l=none->H' l=some (.lst<|IL ds)->ds.length=c->(∀z∈ds,0<=z)->Q (.ref l) H'
theorem scZ21:FnScope ["script","start","count","way","total","folded","k","at","told"] ["script","start","count","way"] (Zz9 (top 110)):=Zf1 S
theorem Zv14(T:Txt K mg t):OkQ P w base CX0 T.q_law_draws 2 (Zz914 K):=by
 refine T.q_law_draws.ok ["script","start","count","way","total","folded","k","at","told"] S (λvs H Q E h=>?_) (λcdv A outer s H vs Q E hr h=>?_)
 ·obtain⟨a,ns,st,c,way,rfl,_⟩:=h;rfl
 ·obtain⟨a,ns,st,c,way,rfl,hS,hn,hst,hc,q⟩:=h;refine⟨_,(Zz2 (Zg (i:=4) scZ21.nd Z (Or.inl Z)<|Zn ZM (Zc (Zz83 K Z) XS T.n_sum Boot.«sum»<|Zz0 (Zs5 Z (sc0:=Zz9<|top 110) (N0:=["script","start","count","way","total","folded","k","at","told"]) (N':=["cell"]) (o:=1) (fr:=[]) ⟨Z,S,S,S,Z,S⟩ (ZS K<|ZW (Zz11 K) (pv 0) (Zn1<|pv 1) Zo1) (ZE J) (λ_ _ _ _=>(Zf (i:=0) (show List.Nodup (["cell"]:List Str) by decide +kernel) Z<|Or.inl Z)) (λ_ _ _ _=>ZP) λ_ _ _ _=>(Zn ZM (pv 0)<|Zn Zp3 Zz7 Zz7)) Zz3)<|Zn Zp3 Zz7 Zz7)
   (Zz2 (Zo7 (i:=5) Z scZ21.nd Z Z (sc0:=Zz9<|top 110) (N0:=["script","start","count","way","total","folded","k","at","told"]) (N':=["k"]) (o:=1) (fr:=[]) ⟨Z,S,S,S,Z,S⟩ (ZR Z T.n_range<|Zz0 (pv 2) Zz3) (ZE J) (λ_ _ _ _=>(Zf (i:=0) (show List.Nodup (["k"]:List Str) by decide +kernel) Z<|Or.inl Z)) (λ_ _ _ _=>ZP) λ_ _ _ _=>(Zn Zc1 (Zn Zk2 Zz7<|pv 0) Zz7))
   (Zz2 (ZX YM Z (Yz4 Z T.n_range<|Zz0 (pv 1)<|Zz0 (Zc (Zh K) XS T.n_len Boot.«len»<|Zz0 (pv 0) Zz3) Zz3) (Zf (i:=6) scZ21.nd Z<|Or.inl Z)
   (Zz2 (Zg (i:=7) scZ21.nd Z (Or.inl Z)<|Zn ZM (pv 6)<|Zc (Zb2 Z) XS T.n_max Boot.«max»<|Zz0 Zz7<|Zz0 (pv 2) Zz3)
   (Zz5 (Zz61 (Zi Zf8 (pv 2) Zz7<|Zq _)
   (Zz5<|ZP3 (Zn ZM (Zn Zc1 (Zn Zk2 (ZC (Zb K) (pv 5) (pv 7) λ_ _=>rfl) Zz7)<|ZC (Zb K) (pv 0) (pv 6) λ_ _=>rfl)<|Zn Zp3 Zz7 Zz7)<|Zq7 (pv 5) (pv 7) Zt1)
   Zm))))
   (Zz2 (Zg (i:=8) scZ21.nd Z (Or.inl Z)<|ZT Zz3)
   (Zz2 (ZX YM Z (ZR Z T.n_range<|Zz0 (pv 2) Zz3) (Zf (i:=6) scZ21.nd Z<|Or.inl Z)
   (Zz5 (Zz61 (PW.pt<|Zc5 (Zi Zz32 (pv 3) Zz7<|Zq _)<|ZC2<|Zi Zf8 (pv 4) Zz7<|Zq _)
   (Zz2 (ZQ<|Zk1 K YY Yy06 Yy05 Zz91 (pv 8)<|Zz0 (Zn ZM (pv 4) Zz7) Zz3)
   (Zz5<|Zg (i:=4) scZ21.nd Z (Or.inl Z)<|Zn Zg1 (pv 4) Zz7))
   (Zz5<|ZQ<|Zk1 K YY Yy06 Yy05 Zz91 (pv 8)<|Zz0 (Zz6 (Zk13 T) hr T.q_law_mixed ZB<|Zz0 (ZC (Zb K) (pv 5) (pv 6) λ_ _=>rfl)<|Zz0 (pv 6) Zz3) Zz3))))
   (Zz5<|Zk<|pv 8)))))),?_⟩
  refine⟨_,Z,_,Z,(st:Int),Z,a,IL ns,Z,hS,λl1 hl1=>?_⟩;have s1:Same H (upd H l1<|.lst<|cutV (IL ns) (some (st:Int)) none):=Zz4 hl1
  obtain⟨ms,hms,hml⟩:∃ms:List Int,cutV (IL ns) (some (st:Int)) none=IL ms/\ms.length<=63:=by
   refine⟨(ns.drop<|HT.sIx (IL ns).length 0 (some (st:Int))).take (HT.sIx (IL ns).length (IL ns).length none-HT.sIx (IL ns).length 0 (some (st:Int))),?_,?_⟩
   ·unfold cutV;rw[Zt8,ZW11]
   ·rw[Yp,Y0k];lia
  refine⟨l1,Z,⟨_,SqL.of Zz1⟩,Zx1 (K:=K) (a:=l1) (xs:=cutV (IL ns) (some (st:Int)) none) (λi ys H2=>H2=upd H l1 (.lst<|cutV (IL ns) (some (st:Int)) none)/\∃rs:List Int,ys=IL rs/\rs.length=i/\i<=ms.length) ⟨Z,[],Z,Z,Yr _⟩ (by rw[hms,Zz8];exact Zp O)
   (λi ys H2 _ zz=>by obtain⟨e,rs,ey,el,_⟩:=zz;exact⟨e▸SqL.of Zz1,by rw[ey,Zz8];lia⟩) ?_ ?_⟩
  ·rintro i x ys H2 hi ⟨rfl,rs,rfl,el,hil⟩ XW hSS;rw[hms]at hi;obtain⟨z,rfl,hz⟩:=Zy1 hi;have hlt:=(Yy4.mp hz).1
   refine nmY ?_;refine⟨_,Z,_,_,Z,Z,⟨J,J,J⟩,_,_,Z,Z,(by show(0:Int)<10^60;decide),?_⟩;refine hSS _ _ ⟨Z,rs++[z%10^60],?_,?_,hlt⟩
   ·exact(Zr1 _ _).symm
   ·rw[Yy3,el];rfl
  ·rintro ys H2 ⟨rfl,rs,rfl,el,_⟩ l2 hl2;have s2:=ZA (o:=.lst<|IL rs) s1 hl2
   refine⟨l2,rs,Z,SqL.of Zz1,_,_,Z,Z,⟨J,J,J⟩,_,_,Z,Z,(by show(0:Int)<10^60;decide),?_⟩;have t0:0<=rs.sum%(10:Int)^((60:Int).toNat):=YW _ J
   refine⟨_,Z,(c:Int),Z,O,O,Zm2 (lo:=0) (n:=((c:Int)).toNat) (λi ys H3=>H3=upd (upd H l1<|.lst<|cutV (IL ns) (some (st:Int)) none) l2 (.lst<|IL rs)/\∃fs:List Int,ys=IL fs/\fs.length=i) ⟨Z,[],Z,Z⟩ (Zp O)
    (λi ys H3 _ zz=>by obtain⟨_,fs,e,el⟩:=zz;rw[e,Zz8];lia) ?_ ?_⟩
   ·rintro i ys H3 hi ⟨rfl,fs,rfl,el2⟩ XW hSS;refine nmY ?_;refine⟨_,Z,_,_,Z,Z,.inl ⟨J,J⟩,_,_,Z,Z,?_⟩;refine hSS _ _ ⟨Z,fs++[7*(0+(i:Int))+5],?_,?_⟩
    ·exact(Zr1 _ _).symm
    ·rw[Yy3,el2];rfl
   ·rintro ys H3 ⟨rfl,fs,rfl,el2⟩ l3 hl3;have s3:=ZA (o:=.lst<|IL fs) s2 hl3
    have hl30:H l3=none:=s2.free hl3;refine⟨_,Z,_,Z,a,_,Z,.inl<|s3.seq hS,(st:Int),((IL ns).length:Int),Z,⟨O,O,O,by rw[Zz8];lia⟩,?_⟩;refine ZZ (lo:=(st:Int)) (n:=(((IL ns).length:Int)-(st:Int)).toNat) (λj σ H4=>∃fs v6 v7,σ=[some (.ref a),some<|.int st,some<|.int c,some<|.int way,some<|.int<|rs.sum%(10:Int)^((60:Int).toNat),some<|.ref l3,v6,v7,none]/\Same H H4/\H4 l3=some (.lst<|IL fs)/\fs.length=c)
     ⟨fs,none,none,Z,s3,Zz1,by rw[el2];simp⟩ ?_ ?_
    ·rintro j σ H4 hj ⟨gs,v6,v7,rfl,s4,h4,eg⟩;rw[Zz8]at hj;refine⟨_,Z,_,Z,_,_,Z,_,_,Z,Z,?_,?_⟩
     ·show(0:Int)<if (c:Int)>1 then (c:Int) else 1
      split<;>lia
     ·refine⟨_,Z,_,_,Z,Z,_,Z,?_⟩;refine itd2 (λhc0=>?_) (λhc0=>?_)
      ·have hmax:(if (c:Int)>1 then (c:Int) else 1)=(c:Int):=by split<;>lia
       have at0:0<=((st:Int)+(j:Int))%(c:Int):=YW _ O;have at1:((st:Int)+(j:Int))%(c:Int)<(c:Int):=YZ _ hc0
       rw[hmax];generalize hat:((st:Int)+(j:Int))%(c:Int)=at' at *;obtain⟨f,hf⟩:∃f,gs[at'.toNat]?=some f:=⟨_,Yy0 XR⟩;obtain⟨z,hz⟩:∃z,ns[st+j]?=some z:=⟨_,Yy0 O⟩;refine⟨_,Z,_,Z,l3,_,_,_,Z,Z,SqL.of h4,Zw (n:=at'.toNat) O (by rw[Yg,hf];rfl),_,_,Z,Z,.inr ⟨J,J⟩,_,Z,_,Z,a,_,_,_,Z,Z,s4.seq hS,Zw (n:=st+j) O (by rw[Yg,hz];rfl),_,_,Z,Z,_,_,Z,Z,⟨J,J,J⟩,_,_,Z,Z,(by show(0:Int)<10^60;decide),?_⟩;refine⟨_,Z,_,Z,l3,_,_,at'.toNat,Z,Z,h4,?_,?_⟩
       ·rw[hat];unfold ixN;rw[if_pos at0,if_pos (by rw[Zz8];grind)]
       ·refine⟨gs.set at'.toNat<|(f*31+z)%(10:Int)^((60:Int).toNat),_,_,Z,Zu hl30 s4,?_,by rwa[Y0i]⟩;rw[Zz1,Zz110]
      ·exact⟨gs,_,_,Z,s4,h4,eg⟩
    ·rintro σ H4 ⟨gs,v6,v7,rfl,s4,h4,eg⟩;refine⟨Yr _,λl5 hl5=>?_⟩;have hl50:H l5=none:=s4.free hl5
     have n35:l3≠l5:=Ze h4 hl5;refine⟨_,Z,(c:Int),Z,O,O,ZZ (lo:=0) (n:=((c:Int)).toNat) (λj σ H6=>∃tot ds v6 v7,σ=[some (.ref a),some<|.int st,some<|.int c,some<|.int way,some<|.int tot,some<|.ref l3,v6,v7,some (.ref l5)]/\Same H H6/\H6 l3=some (.lst<|IL gs)/\H6 l5=some (.lst<|IL ds)/\ds.length=j/\(∀z∈ds,0<=z)/\0<=tot)
      ⟨_,[],_,_,Z,ZA s4 hl5,by rw[Zd n35];exact h4,Zz1,Z,λz hz=>(by cases hz),t0⟩ ?_ ?_⟩
     ·rintro j σ H6 hj ⟨tot,ds,w6,w7,rfl,s6,h63,h65,edl,hds,htot⟩;have jc:j<c:=O
      have app:∀r:Int,(upd H6 l5<|.lst<|IL ds++[.int r]) l5=some (.lst<|IL<|ds++[r]):=λr=>by rw[Zz1,Zr1]
      have dlen:(IL ds).length<sizeLine:=by rw[Zz8];exact Zp O
      obtain⟨f,hf⟩:∃f,gs[j]?=some f:=⟨_,Yy0 O⟩;refine⟨_,Z,Z,_,Z,?_⟩;refine itd2 (λhw=>?_) (λhw=>?_)
      ·refine⟨_,Z,_,_,Z,Z,_,Z,?_⟩;refine itd2 (λhtp=>?_) (λhtp=>?_)
       ·refine⟨_,Z,.inl ⟨Z,_,SqL.of h65⟩,_,Z,_,_,Z,Z,(by show(0:Int)<210;decide),l5,_,_,Z,Z,h65,dlen,?_⟩;refine⟨_,Z,_,_,Z,Z,⟨J,J⟩,?_⟩;refine⟨_,ds++[tot%210],_,_,Z,Zu hl50 s6,by rw[Zd n35];exact h63,app _,by rw[Yy3,edl];rfl,Zh4 hds<|YW _ J,?_⟩;lia
       ·refine⟨_,Z,.inl ⟨Z,_,SqL.of h65⟩,_,Z,_,Z,l3,_,_,_,Z,Z,SqL.of h63,Zw (n:=j) O (by rw[Yg,hf];rfl),_,Z,_,_,Z,λr r0 r1=>?_⟩;refine⟨l5,_,_,Z,Z,h65,dlen,?_⟩;exact⟨_,ds++[r],_,_,Z,Zu hl50 s6,by rw[Zd n35];exact h63,app _,by rw[Yy3,edl];rfl,Zh4 hds r0,htot⟩
      ·refine⟨_,Z,.inl ⟨Z,_,SqL.of h65⟩,_,Z,_,Z,l3,_,_,_,Z,Z,SqL.of h63,Zw (n:=j) O (by rw[Yg,hf];rfl),_,Z,_,_,Z,λr r0 r1=>?_⟩;refine⟨l5,_,_,Z,Z,h65,dlen,?_⟩;exact⟨_,ds++[r],_,_,Z,Zu hl50 s6,by rw[Zd n35];exact h63,app _,by rw[Yy3,edl];rfl,Zh4 hds r0,htot⟩
     ·rintro σ H6 ⟨tot,ds,w6,w7,rfl,s6,h63,h65,edl,hds,htot⟩;exact⟨_,Z,q l5 ds H6 s6 hl50 h65 O hds⟩
theorem PairsV.good{H:Hp}{xs:List V}{ps:List (Int×Int)}{v:V}{p:Int×Int}{n:Int}(h:∀p∈ps,0<=p.1/\p.1<n/\0<=p.2/\p.2<n)(hp:0<=p.1/\p.1<n/\0<=p.2/\p.2<n):∀q∈ps++[p],0<=q.1/\q.1<n/\0<=q.2/\q.2<n:=λq hq=>by
 rcases Yj.mp hq with z|z
 ·exact h q z
 ·rwa[Yy2.mp z]
noncomputable def Zz814(K:PySem.W.Frag):Sp:=λvs H Q _=>∃a ds n hang,vs=[.ref a,.int n,.bl hang]/\SqL K H a (IL ds)/\ds.length<=100/\(∀z∈ds,0<=z)/\1<=n/\n<=1000/\
 ∀l xs ps H',Same H H'->H l=none->H' l=some (.lst xs)->PairsV H' xs ps->ps.length=ds.length->(∀p∈ps,0<=p.1/\p.1<n/\0<=p.2/\p.2<n)->Q (.ref l) H'
theorem scZ31:FnScope ["draws","places","hang","ties","k","one","other","ends","turn"] ["draws","places","hang"] (Zz9 (top 111)):=Zf1 S
theorem Zu14(T:Txt K mg t):OkQ P w base CX0 T.q_law_ties 1 (Zz814 K):=by
 refine T.q_law_ties.ok ["draws","places","hang","ties","k","one","other","ends","turn"] S (λvs H Q E h=>?_) (λcdv A outer s H vs Q E hr h=>?_)
 ·obtain⟨a,ds,n,hang,rfl,_⟩:=h;rfl
 ·obtain⟨a,ds,n,hang,rfl,hS,hdl,hds,n1,n2,q⟩:=h;refine⟨_,(Zz2 (Zg (i:=3) scZ31.nd Z (Or.inl Z)<|ZT Zz3)
   (Zz2 (ZX YM Z (ZR Z T.n_range<|Zz0 (Zc (Zh K) XS T.n_len Boot.«len»<|Zz0 (pv 0) Zz3) Zz3) (Zf (i:=4) scZ31.nd Z<|Or.inl Z)
   (Zz2 (Zg (i:=5) scZ31.nd Z (Or.inl Z)<|Zn ZM (ZC (Zb K) (pv 0) (pv 4) λ_ _=>rfl)<|pv 1)
   (Zz2 (Zg (i:=6) scZ31.nd Z (Or.inl Z)<|Zn ZM (Zn Zg1 (ZC (Zb K) (pv 0) (pv 4) λ_ _=>rfl)<|pv 1)<|pv 1)
   (Zz2 (Zz61 (PW.pt<|Zc5 (Zm3<|pv 2)<|ZC2<|Zi Zr7 (pv 4) (Zn Zz22 (pv 1) Zz7)<|Zq _)
   (Zz2 (Zg (i:=7) scZ31.nd Z (Or.inl Z)<|Zb1<|Zz0 (Zn ZM (ZC (Zb K) (pv 0) (pv 4) λ_ _=>rfl)<|Zn Zc1 (pv 4) Zz7)<|Zz0 (Zn Zc1 (pv 4) Zz7) Zz3)
   (Zz2 (Zg (i:=5) scZ31.nd Z (Or.inl Z)<|ZC (ZN K) (pv 7) (Zn ZM (Zn Zg1 (ZC (Zb K) (pv 0) (pv 4) λ_ _=>rfl) Zz7) Zz7) λ_ _=>rfl)
   (Zz5<|Zg (i:=6) scZ31.nd Z (Or.inl Z)<|ZC (ZN K) (pv 7) (Zn Zz22 Zz7<|Zn ZM (Zn Zg1 (ZC (Zb K) (pv 0) (pv 4) λ_ _=>rfl) Zz7) Zz7) λ_ _=>rfl)))
   Zm)
   (Zz5<|ZQ<|Zk1 K YY Yy06 Yy05 Zz91 (pv 3)<|Zz0 (Zb1<|Zz0 (pv 5)<|Zz0 (pv 6) Zz3) Zz3)))))
   (Zz2 (Zg (i:=8) scZ31.nd Z (Or.inl Z)<|Zn ZM (Zc (Zz83 K Z) XS T.n_sum Boot.«sum»<|Zz0 (pv 0) Zz3)<|Zc (Zb2 Z) XS T.n_max Boot.«max»<|Zz0 Zz7<|Zz0 (Zc (Zh K) XS T.n_len Boot.«len»<|Zz0 (pv 3) Zz3) Zz3)
   (Zz5<|Zk<|Zn Zt7 (ZW (Zz11 K) (pv 3) (Zn1<|pv 8) Zo1)<|ZW (Zz11 K) (pv 3) Zo1<|Zn1<|pv 8)))),?_⟩
  refine⟨Yr _,λl hl=>?_⟩;refine⟨_,Z,a,_,Z,.inl<|(Zz4 hl).seq hS,_,Z,O,by rw[Zz8];omega,ZZ (lo:=0) (n:=((IL ds).length:Int).toNat) (λi σ H2=>∃xs ps v4 v5 v6 v7,σ=[some (.ref a),some<|.int n,some<|.bl hang,some<|.ref l,v4,v5,v6,v7,none]/\Same H H2/\H2 l=some (.lst xs)/\PairsV H2 xs ps/\ps.length=i/\∀p∈ps,0<=p.1/\p.1<n/\0<=p.2/\p.2<n)
   ⟨[],[],none,none,none,none,Z,Zz4 hl,Zz1,PairsV.nil,Z,λp hp=>(by cases hp)⟩ ?_ ?_⟩
  ·rintro i σ H2 hi ⟨xs,ps,v4,v5,v6,v7,rfl,s2,h2,hP,hlp,hb⟩;have hi':i<ds.length:=by rw[Zz8]at hi;lia
   obtain⟨d,hd⟩:∃d,ds[i]?=some d:=⟨_,Yy0 hi'⟩;have d0:0<=d:=hds d (Yy8 hd)
   have iD:atI (IL ds) (0+(i:Int))=some (.int d):=Zw (n:=i) O (Zh5 hd);have xl:xs.length<sizeLine:=Zp (by rw[hP.1];lia)
   have put:∀x y H3 r,Same H2 H3->H3 r=none->0<=x->x<n->0<=y->y<n->∀u5 u6 u7:Option V,∃xs' ps' v4 v5 v6 v7,
     ([some (.ref a),some<|.int n,some<|.bl hang,some<|.ref l,some<|.int<|0+(i:Int),u5,u6,u7,none]:List (Option V))=[some (.ref a),some<|.int n,some<|.bl hang,some<|.ref l,v4,v5,v6,v7,none]/\
     Same H (upd (upd H3 r<|.tup [.int x,.int y]) l<|.lst<|xs++[.ref r])/\(upd (upd H3 r<|.tup [.int x,.int y]) l<|.lst<|xs++[.ref r]) l=some (.lst xs')/\PairsV (upd (upd H3 r<|.tup [.int x,.int y]) l<|.lst<|xs++[.ref r]) xs' ps'/\ps'.length=i+1/\∀p∈ps',0<=p.1/\p.1<n/\0<=p.2/\p.2<n:=by
    intro x y H3 r s3 hr x0 x1 y0 y1 u5 u6 u7;have h3:=s3 _ _ h2
    have s4:=ZA (o:=.tup [.int x,.int y]) s3 hr;have nlr:l≠r:=Ze h3 hr
    refine⟨xs++[.ref r],ps++[(x,y)],_,_,_,_,Z,Zu hl<|s2.trans s4,Zz1,?_,by rw[Yy3,hlp];rfl,PairsV.good (H:=H) (xs:=[]) (v:=.non) hb ⟨x0,x1,y0,y1⟩⟩;have hP4:PairsV (upd H3 r<|.tup [.int x,.int y]) (xs++[.ref r]) (ps++[(x,y)]):=(hP.same s4).snoc ⟨r,Z,Zz1⟩
    refine⟨hP4.1,λj p e=>?_⟩;obtain⟨v,e1,tt,e2,e3⟩:=hP4.2 j p e;exact⟨v,e1,tt,e2,by rwa[Zd (ZI9 e3 (s4 _ _ h2) (λz=>nomatch z))]⟩
   refine⟨_,Z,_,Z,a,_,_,_,Z,Z,s2.seq hS,iD,_,Z,_,_,Z,Z,(by show 0<n;lia),?_⟩;refine⟨_,Z,_,Z,a,_,_,_,Z,Z,s2.seq hS,iD,_,Z,_,_,Z,Z,⟨by show 0<n;lia,by show n<1073741824;lia⟩,_,Z,_,_,Z,Z,(by show 0<n;omega),?_⟩;have o0:0<=d%n:=YW _ O
   have o1:d%n<n:=YZ _ XT;have q0:0<=d/n%n:=YW _ O
   have q1:d/n%n<n:=YZ _ XT;refine⟨_,Z,_,Z,?_⟩;refine itb (λhh=>?_) (λhh=>?_)
   ·refine⟨_,Z,_,Z,_,_,Z,Z,_,_,Z,Z,_,Z,?_⟩;refine itd2 (λhk=>?_) (λhk=>?_)
    ·have k1:(0:Int)<0+(i:Int)+1:=O;have r0:0<=d%(0+(i:Int)+1):=YW _ O
     have r1:d%(0+(i:Int)+1)<0+(i:Int)+1:=YZ _ k1;refine⟨_,Z,_,Z,a,_,_,_,Z,Z,s2.seq hS,iD,_,Z,_,_,Z,Z,_,_,Z,Z,k1,_,Z,_,_,Z,Z,(by show 2<=sizeLine;decide),λe he=>?_⟩;have se:=Zz4 (o:=.tup [.int (d%(0+(i:Int)+1)),.int (0+(i:Int)+1)]) he
     have m0:0<=d/105%2:=YW _ J;have m1:d/105%2<2:=YZ _ J
     obtain⟨x,hx,x0,x1⟩:∃x:Int,atI ([.int (d%(0+(i:Int)+1)),.int (0+(i:Int)+1)]:List V) (d/105%2)=some (.int x)/\0<=x/\x<n:=by
      rcases(by lia:d/105%2=0\/d/105%2=1) with e|e
      ·rw[e];exact⟨_,Z,r0,O⟩
      ·rw[e];exact⟨_,Z,O,O⟩
     obtain⟨y,hy,y0,y1⟩:∃y:Int,atI ([.int (d%(0+(i:Int)+1)),.int (0+(i:Int)+1)]:List V) (1-d/105%2)=some (.int y)/\0<=y/\y<n:=by
      rcases(by lia:d/105%2=0\/d/105%2=1) with e|e
      ·rw[e];exact⟨_,Z,O,O⟩
      ·rw[e];exact⟨_,Z,r0,O⟩
     have c2:CDiv d 105:=⟨J,J⟩;refine⟨_,Z,_,Z,_,Z,a,_,_,_,Z,Z,(s2.trans se).seq hS,iD,_,_,Z,Z,c2,_,_,Z,Z,(by show(0:Int)<2;decide),e,_,_,_,Z,Z,SqT.of Zz1,hx,?_⟩;refine⟨_,Z,_,Z,_,Z,a,_,_,_,Z,Z,(s2.trans se).seq hS,iD,_,_,Z,Z,c2,_,_,Z,Z,(by show(0:Int)<2;decide),_,_,Z,Z,e,_,_,_,Z,Z,SqT.of Zz1,hy,?_⟩;refine⟨_,Z,.inl ⟨Z,_,SqL.of<|se _ _ h2⟩,_,Z,_,Z,(by show 2<=sizeLine;decide),λr hr=>?_⟩;exact⟨l,xs,_,Z,Z,(ZA se hr) _ _ h2,xl,put x y _ r se hr x0 x1 y0 y1 _ _ _⟩
    ·refine⟨_,Z,.inl ⟨Z,_,SqL.of h2⟩,_,Z,_,Z,(by show 2<=sizeLine;decide),λr hr=>?_⟩;exact⟨l,xs,_,Z,Z,(Zz4 hr) _ _ h2,xl,put _ _ _ r (Same.refl _) hr o0 o1 q0 q1 _ _ _⟩
   ·refine⟨_,Z,.inl ⟨Z,_,SqL.of h2⟩,_,Z,_,Z,(by show 2<=sizeLine;decide),λr hr=>?_⟩;exact⟨l,xs,_,Z,Z,(Zz4 hr) _ _ h2,xl,put _ _ _ r (Same.refl _) hr o0 o1 q0 q1 _ _ _⟩
  ·rintro σ H2 ⟨xs,ps,v4,v5,v6,v7,rfl,s2,h2,hP,hlp,hb⟩;have hlp:ps.length=ds.length:=by rw[hlp,Zz8];simp
   refine⟨_,Z,a,ds,Z,s2.seq hS,_,Z,l,xs,Z,.inl<|SqL.of h2,_,_,Z,_,_,Z,Z,?_,?_⟩
   ·show(0:Int)<if (xs.length:Int)>1 then (xs.length:Int) else 1
    split<;>lia
   ·generalize hT:ds.sum%(if (xs.length:Int)>1 then (xs.length:Int) else 1)=T0;have T1:0<=T0:=by rw[<-hT];exact YW _ (by split<;>lia)
    have T2:T0.toNat<=xs.length:=by
     have:T0<(if (xs.length:Int)>1 then (xs.length:Int) else 1):=by rw[<-hT];exact YZ _ (by split<;>lia)
     split at this<;>grind
    have e1:cutV xs (some T0) none=xs.drop T0.toNat:=Zq10 T1 T2;have e2:cutV xs none (some T0)=xs.take T0.toNat:=ZA13 T1 T2
    refine⟨_,Z,_,Z,T0,YX V.int hT,l,xs,Z,SqL.of h2,λr1 hr1=>?_⟩;have s3:=Zz4 (o:=.lst<|cutV xs (some T0) none) hr1
    refine⟨_,Z,_,Z,T0,YX V.int hT,l,xs,Z,SqL.of<|s3 _ _ h2,λr2 hr2=>?_⟩;have s4:=ZA (o:=.lst<|cutV xs none<|some T0) s3 hr2
    have n12:r1≠r2:=Ze Zz1 hr2;refine⟨r1,r2,_,_,Z,Z,by rw[Zd n12,Zz1],Zz1,?_,λr hr=>?_⟩
    ·rw[e1,e2,Y0k,Yp];exact ZK1 (by rw[hP.1];grind)
    ·have s5:=ZA (o:=.lst<|cutV xs (some T0) none++cutV xs none (some T0)) s4 hr;refine q r _ (ps.drop T0.toNat++ps.take T0.toNat) _ (s2.trans s5) ((s2.trans s4).free hr) Zz1 ?_ ?_ λp hp=>?_
     ·have z:=((hP.same s5).drop T0.toNat).app ((hP.same s5).take T0.toNat);rwa[<-e1,<-e2]at z
     ·rw[Yy3,Y0k,Yp,<-hP.1]
      have:=hP.1
      grind
     ·rcases Yj.mp hp with z|z
      ·exact hb p (List.mem_of_mem_drop z)
      ·exact hb p (Yy19 z)
noncomputable def Zz714(K:PySem.W.Frag):Sp:=λvs H Q _=>∃a ns most count,vs=[.ref a,.int most,.int count]/\SqL K H a (IL ns)/\ns.length<=63/\1<=most/\most<=14/\0<=count/\count<=30/\
 ∀r l n xs ps H',Same H H'->H' r=some (.tup [.int n,.ref l])->H l=none->H' l=some (.lst xs)->PairsV H' xs ps->ZL n ps->n<=most->(ps.length:Int)<=count->Q (.ref r) H'
theorem scZ41:FnScope ["script","most","count","head","places","many","draws"] ["script","most","count"] (Zz9 (top 112)):=Zf1 S
theorem Zt14(T:Txt K mg t):OkQ P w base CX0 T.q_law_web 3 (Zz714 K):=by
 refine T.q_law_web.ok ["script","most","count","head","places","many","draws"] S (λvs H Q E h=>?_) (λcdv A outer s H vs Q E hr h=>?_)
 ·obtain⟨a,ns,most,count,rfl,_⟩:=h;rfl
 ·obtain⟨a,ns,most,count,rfl,hS,hn,m1,m2,c1,c2,q⟩:=h;refine⟨_,(Zz2 (Zg (i:=3) scZ41.nd Z (Or.inl Z)<|Zz6 (Zl13 T) hr T.q_law_cell ZB<|Zz0 (pv 0)<|Zz0 Zz7 Zz3)
   (Zz2 (Zg (i:=4) scZ41.nd Z (Or.inl Z)<|Zn Zc1 Zz7<|Zn ZM (pv 3)<|pv 1)
   (Zz2 (Zg (i:=5) scZ41.nd Z (Or.inl Z)<|Zc (Za2 Z) XS T.n_min Boot.«min»<|Zz0 (pv 2)<|Zz0 (Zn Zc1 (Zn ZM (Zn Zg1 (pv 3)<|pv 1)<|Zn Zc1 (pv 2) Zz7)<|Zn Zk2 (Zn ZM (Zn Zg1 (pv 3) Zz7) Zz7)<|pv 4) Zz3)
   (Zz2 (Zg (i:=6) scZ41.nd Z (Or.inl Z)<|Zz6 (Zv14 T) hr T.q_law_draws ZB<|Zz0 (pv 0)<|Zz0 Zz7<|Zz0 (pv 5)<|Zz0 (Zn ZM (Zn Zg1 (pv 3) Zz7) Zz7) Zz3)
   (Zz5<|Zk<|Zb1<|Zz0 (pv 4)<|Zz0 (Zz6 (Zu14 T) hr T.q_law_ties ZB<|Zz0 (pv 6)<|Zz0 (pv 4)<|Zz0 (ZN1 Zf8 (Zn ZM (Zn Zg1 (pv 3) Zz7) Zz7) Zz7<|Zq _) Zz3) Zz3))))),?_⟩
  refine⟨_,Z,a,ns,0,Z,hS,J,λhd h0 h1=>?_⟩;have n0:0<=hd%most:=YW _ O
  have n1:hd%most<most:=YZ _ O;refine⟨_,Z,_,Z,_,_,Z,Z,(by show 0<most;lia),_,_,Z,Z,?_⟩;refine⟨_,Z,_,Z,_,Z,_,_,Z,Z,⟨by show 0<most;omega,by show most<1073741824;lia⟩,_,Z,_,_,Z,Z,_,_,Z,Z,(by show 0<count+1;lia),_,Z,_,_,Z,Z,⟨J,J⟩,_,_,Z,Z,(by show(0:Int)<2;decide),_,Z,_,_,Z,Z,.inr ⟨by show -(2^64)<1+hd%most;lia,by show 1+hd%most<2^64;lia⟩,_,_,Z,Z,_,_,Z,?_⟩;have e0:0<=hd/most%(count+1):=YW _ O
  have f0:0<=hd/97%2:=YW _ J;have g0:0<=hd/97%2*(1+hd%most):=Int.mul_nonneg f0 O
  obtain⟨c,hc⟩:∃c:Nat,(if hd/most%(count+1)+hd/97%2*(1+hd%most)<count then hd/most%(count+1)+hd/97%2*(1+hd%most) else count)=(c:Int):=
   ⟨(if hd/most%(count+1)+hd/97%2*(1+hd%most)<count then hd/most%(count+1)+hd/97%2*(1+hd%most) else count).toNat,by split<;>lia⟩
  have k1:(c:Int)<=count:=by rw[<-hc];split<;>grind
  refine⟨_,Z,_,Z,_,Z,_,_,Z,Z,⟨J,J⟩,_,_,Z,Z,(by show(0:Int)<2;decide),a,ns,1,c,_,YX (λz:Int=>[V.ref a,V.int 1,V.int z,V.int (hd/194%2)]) hc,hS,hn,J,O,λl ds H1 s1 hl0 hl1 edl hds=>?_⟩;refine⟨_,Z,_,Z,_,Z,_,Z,_,_,Z,Z,⟨J,J⟩,_,_,Z,Z,(by show(0:Int)<3;decide),_,_,Z,Z,l,ds,_,_,Z,SqL.of hl1,O,hds,(by show 1<=1+hd%most;lia),(by show 1+hd%most<=1000;lia),λl2 xs ps H2 s2 hl20 hl21 hP ePl hb=>?_⟩;refine⟨(by show 2<=sizeLine;decide),λr hr=>?_⟩;have s3:=Zz4 (o:=.tup [.int (1+hd%most),.ref l2]) hr
  exact q r l2 (1+hd%most) xs ps _ ((s1.trans s2).trans s3) Zz1 (s1.free hl20) (s3 _ _ hl21) (hP.same s3) ⟨O,O,O,hb⟩ O O
noncomputable def Zz614(K:PySem.W.Frag):Sp:=λvs H Q _=>∃(n:Int)(a b:Addr)(xs:List V)(ps:List (Int×Int))(kd:Bool)(ns:List Int),vs=[.int n,.ref a,.ref b]/\SqL K H a xs/\PairsV H xs ps/\ZL n ps/\SqK kd K H b (IL ns)/\(∀z∈ns,0<=z/\z<(ps.length:Int))/\
 ∀(m:Addr)(H':Hp),Same H H'->H m=none->H' m=some (.lst<|IL<|lms n.toNat<|Za ps ns)->Q (.ref m) H'
theorem scZ51:FnScope ["places","ties","some","marks","tie","one","other","gone","kept","place"] ["places","ties","some"] (Zz9 (top 113)):=Zf1 S
theorem Zs14(T:Txt K mg t):OkQ P w base CX0 T.q_law_marks 1 (Zz614 K):=by
 refine T.q_law_marks.ok ["places","ties","some","marks","tie","one","other","gone","kept","place"] S (λvs H Q E h=>?_) (λcdv A outer s H vs Q E hr h=>?_)
 ·obtain⟨n,a,b,xs,ps,kd,ns,rfl,_⟩:=h;rfl
 ·obtain⟨n,a,b,xs,ps,kd,ns,rfl,hA,h3,⟨g1,g2,g3,g4⟩,hS,hI,q⟩:=h;refine⟨_,(Zz2 (Zg (i:=3) scZ51.nd Z (Or.inl Z)<|Zj (Zz02 Z) XS T.n_list Boot.«list»<|Zz0 (Zj Zz93 XS T.n_range Boot.«range»<|Zz0 (pv 0) Zz3) Zz3)
   (Zz2 (ZX YM Z (Zh2 K<|pv 2) (Zf (i:=4) scZ51.nd Z<|Or.inl Z)
   (Zz2 (ZP3 (ZC (Zb K) (pv 1) (pv 4) λ_ _=>rfl)<|Zv1 (n:=2) K Z<|Zv (Zf (i:=5) scZ51.nd Z<|Or.inl Z)<|Zv (Zf (i:=6) scZ51.nd Z<|Or.inl Z) Zu1)
   (Zz5 (Zz61 (Zi Zz86 (ZC (Zb K) (pv 3) (pv 5) λ_ _=>rfl) (ZC (Zb K) (pv 3) (pv 6) λ_ _=>rfl)<|Zq _)
   (Zz2 (Zg (i:=7) scZ51.nd Z (Or.inl Z)<|ZC (Zb K) (pv 3) (pv 6) λ_ _=>rfl)
   (Zz2 (Zg (i:=8) scZ51.nd Z (Or.inl Z)<|ZC (Zb K) (pv 3) (pv 5) λ_ _=>rfl)
   (Zz5 (ZX YM Z (ZR Z T.n_range<|Zz0 (pv 0) Zz3) (Zf (i:=9) scZ51.nd Z<|Or.inl Z)
   (Zz5 (Zz61 (Zi Zz32 (ZC (Zb K) (pv 3) (pv 9) λ_ _=>rfl) (pv 7)<|Zq _)
   (Zz5<|ZP3 (pv 8)<|Zq7 (pv 3) (pv 9) Zt1)
   Zm))))))
   Zm))))
   (Zz5<|Zk<|pv 3))),?_⟩
  refine⟨_,Z,n,Z,λr hr0=>⟨r,0,n,Z,Zz1,⟨J,J,XT,XT⟩,XT,λm hm=>?_⟩⟩;have sm:Same H (upd (upd H r<|.rng 0 n) m<|.lst<|(rngI 0 n).map V.int):=ZA (Zz4 hr0) hm
  have hm0:H m=none:=(Zz4 hr0).free hm;refine⟨_,Z,b,Z,Zy3 (k:=kd) (K:=K) (a:=b) (xs:=IL ns) (λi σ H2=>∃(v4 v5 v6 v7 v8 v9:Option V),σ=[some (.int n),some<|.ref a,some<|.ref b,some<|.ref m,v4,v5,v6,v7,v8,v9]/\Same H H2/\H2 m=some (.lst<|IL<|lms n.toNat<|Za ps<|ns.take i))
   ⟨none,none,none,none,none,none,Z,sm,?_⟩ (λi σ H2 _ zz=>by obtain⟨_,_,_,_,_,_,_,s2,_⟩:=zz;exact hS.same s2) ?_ ?_⟩
  ·rw[Zz1,Zu4];rfl
  ·rintro i x σ H2 hi ⟨v4,v5,v6,v7,v8,v9,rfl,s2,hm2⟩;obtain⟨z,rfl,hz⟩:=Zy1 hi;obtain⟨z0,z1⟩:=hI z (Yy8 hz);obtain⟨p,hp⟩:∃p,ps[z.toNat]?=some p:=⟨_,Yy0 XT⟩;obtain⟨v,hv,tt,rfl,htt⟩:=h3.2 z.toNat p hp;obtain⟨e1,e2,e3,e4⟩:=g4 p (Yy8 hp);have ed:ps.getD z.toNat (0,0)=p:=ZR1 hp
   refine⟨_,Z,_,Z,a,xs,z,.ref tt,Z,Z,s2.seq hA,Zw (n:=z.toNat) XT hv,tt,_,Z,SqT.of<|s2 _ _ htt,Z,_,_,Z,_,_,Z,Z,?_⟩;have hl:(lms n.toNat<|Za ps<|ns.take i).length=n.toNat:=Zy _ _
   generalize hM:lms n.toNat (Za ps<|ns.take i)=M at *;have ha:M[p.1.toNat]?=some (mk M p.1.toNat):=ZP1 XT
   have hb:M[p.2.toNat]?=some (mk M p.2.toNat):=ZP1 XT;have iA:atI (IL M) p.1=some (.int<|mk M p.1.toNat):=Zw (n:=p.1.toNat) XT (by rw[Yg,ha];rfl)
   have iB:atI (IL M) p.2=some (.int<|mk M p.2.toNat):=Zw (n:=p.2.toNat) XT (by rw[Yg,hb];rfl);have step:lms n.toNat (Za ps<|ns.take<|i+1)=lm M p.1.toNat p.2.toNat:=by rw[ZI2 hz,Zd1,hM,ed]
   refine⟨_,Z,_,Z,m,_,p.1,_,Z,Z,SqL.of hm2,iA,_,Z,_,Z,m,_,p.2,_,Z,Z,SqL.of hm2,iB,Z,_,Z,?_⟩;rw[Zz];refine itn2 (λhc=>?_) (λhc=>?_)
   ·refine⟨_,_,_,_,_,_,Z,s2,?_⟩;rw[hm2,step];unfold lm;rw[if_neg (by simpa using hc)]
   ·refine⟨_,Z,_,Z,m,_,p.2,_,Z,Z,SqL.of hm2,iB,?_⟩;refine⟨_,Z,_,Z,m,_,p.1,_,Z,Z,SqL.of hm2,iA,?_⟩;refine⟨_,Z,n,Z,XT,XT,ZZ (lo:=0) (n:=n.toNat) (λj σ H3=>∃(v4 v5 v6 v9:Option V),σ=[some (.int n),some<|.ref a,some<|.ref b,some<|.ref m,v4,v5,v6,some<|.int<|mk M p.2.toNat,some<|.int<|mk M p.1.toNat,v9]/\Same H H3/\
      H3 m=some (.lst<|IL<|(M.take j).map (λk=>if k=mk M p.2.toNat then mk M p.1.toNat else k)++M.drop j)) ⟨_,_,_,_,Z,s2,by rw[hm2];rfl⟩ ?_ ?_⟩
    ·rintro j σ H3 hj ⟨w4,w5,w6,w9,rfl,s3,hm3⟩;have hjM:M[j]?=some (mk M j):=ZP1 XT
     have hlt:((M.take j).map λk=>if k=mk M p.2.toNat then mk M p.1.toNat else k).length=j:=by rw[Yy9,Yp];omega
     have hjv:((M.take j).map (λk=>if k=mk M p.2.toNat then mk M p.1.toNat else k)++M.drop j)[j]?=some (mk M j):=by rwa[Yn XT,hlt,Y2u,Y0R,Nat.add_zero]
     have ezj:(0:Int)+(j:Int)=(j:Int):=Y1V _;have iJ:atI (IL<|(M.take j).map (λk=>if k=mk M p.2.toNat then mk M p.1.toNat else k)++M.drop j) (0+(j:Int))=some (.int<|mk M j):=Zw (n:=j) ezj (by rw[Yg,hjv];rfl)
     have dj:M.drop j=mk M j::M.drop (j+1):=by
      rw[List.drop_eq_getElem_cons XT];congr 1
      have:=hjM
      rw[Yy0 XT]at this;exact Yl this
     refine⟨_,Z,_,Z,m,_,_,_,Z,Z,SqL.of hm3,iJ,_,Z,Z,_,Z,?_⟩;rw[Zz];refine itd2 (λhe=>?_) (λhe=>?_)
     ·refine⟨_,Z,_,Z,_,Z,m,_,_,j,Z,Z,hm3,?_,?_⟩
      ·unfold ixN;rw[if_pos XT,if_pos (by rw[Zz8,Yy3,hlt,Y0k];omega)];simp
      ·refine⟨_,_,_,_,Z,Zu hm0 s3,?_⟩;rw[Zz1,YD,hjM];congr 2;rw[<-Zz110,List.set_append_right _ _ (by rw[hlt];exact Yy6 _),hlt,Y0R,dj,Yz,List.set_cons_zero,Y0A];show IL (_++_::_)=IL (_++((if mk M j=mk M p.2.toNat then mk M p.1.toNat else mk M j)::_))
       rw[if_pos he];rfl
     ·refine⟨_,_,_,_,Z,s3,?_⟩;rw[hm3,YD,hjM,dj];congr 2;rw[Yz,Y0A];show IL (_++_::_)=IL (_++((if mk M j=mk M p.2.toNat then mk M p.1.toNat else mk M j)::_))
      rw[if_neg he];rfl
    ·rintro σ H3 ⟨w4,w5,w6,w9,rfl,s3,hm3⟩;refine⟨_,_,_,_,_,_,Z,s3,?_⟩;rw[hm3,step];unfold lm;rw[if_pos hc,YL XT,Y0H XT,Yy04]
  ·rintro σ H2 ⟨v4,v5,v6,v7,v8,v9,rfl,s2,hm2⟩;rw[Zz8,YC]at hm2;exact⟨_,Z,q m H2 s2 hm0 hm2⟩
noncomputable def Zz514(K:PySem.W.Frag):Sp:=λvs H Q _=>∃(n:Int)(a:Addr)(xs:List V)(ps:List (Int×Int)),vs=[.int n,.ref a]/\SqL K H a xs/\PairsV H xs ps/\ZL n ps/\n<=5/\ps.length<=9/\
 ∀(r:Addr)(ys:List V)(L:List (List Int))(H':Hp),Same H H'->H' r=some (.lst ys)->TupsV H' ys L->L.length<=10000->(∀l,l∈L↔Zo n ps l)->L.Pairwise lexS->Q (.ref r) H'
theorem scZ61:FnScope ["places","ties","told","k","longer","some","first"] ["places","ties"] (Zz9 (top 114)):=Zf1 S
theorem Zr14(T:Txt K mg t):OkQ P w base CX0 T.q_law_all 2 (Zz514 K):=by
 refine T.q_law_all.ok ["places","ties","told","k","longer","some","first"] S (λvs H Q E h=>?_) (λcdv A outer s H vs Q E hr h=>?_)
 ·obtain⟨n,a,xs,ps,rfl,_⟩:=h;rfl
 ·obtain⟨n,a,xs,ps,rfl,hA,hP,hG,n5,p9,q⟩:=h;refine⟨_,(Zz2 (Zg (i:=2) scZ61.nd Z (Or.inl Z)<|ZT<|Zz0 (Zb1 Zz3) Zz3)
   (Zz2 (ZX YM Z (ZR Z T.n_range<|Zz0 (Zn Zz22 (pv 0) Zz7) Zz3) (Zf (i:=3) scZ61.nd Z<|Or.inl Z)
   (Zz2 (Zg (i:=4) scZ61.nd Z (Or.inl Z)<|ZT Zz3)
   (Zz2 (ZX YM Z (ZS K<|pv 2) (Zf (i:=5) scZ61.nd Z<|Or.inr Z)
   (Zz2 (Zg (i:=6) scZ61.nd Z (Or.inl Z) Zz7)
   (Zz2 (Zz61 (Zi Zf8 (pv 3) Zz7<|Zq _)
   (Zz5<|Zg (i:=6) scZ61.nd Z (Or.inl Z)<|Zn Zc1 (ZC (ZN K) (pv 5) (Zn Zz22 (pv 3) Zz7) λ_ _=>rfl) Zz7)
   Zm)
   (Zz5<|ZQ<|Zk1 K YY PySem.F.slot_list_extend PySem.F.type_list_extend Zw7 (pv 4)<|Zz0 (Zs5 rfl (sc0:=Zz9<|top 114) (N0:=["places","ties","told","k","longer","some","first"]) (N':=["tie","some"]) (o:=1) (fr:=[5]) ⟨rfl,S,S,S,rfl,S⟩ (Yz4 rfl T.n_range<|Zz0 (pv 6)<|Zz0 (Zc (Zh K) XS T.n_len Boot.«len»<|Zz0 (pv 1) Zz3) Zz3) (ZE J) (λ_ _ _ _=>(Zf (i:=0) (show List.Nodup (["tie","some"]:List Str) by decide +kernel) rfl<|Or.inl rfl)) (λ_ _ _ _=>ZP) λ_ _ _ _=>(Zn (Zq3 K) (pv 1)<|Zb1<|Zz0 (pv 0) Zz3)) Zz3))))
   (Zz5<|Zg (i:=2) scZ61.nd Z (Or.inl Z)<|pv 4))))
   (Zz5<|Zk<|Zs5 rfl (sc0:=Zz9<|top 114) (N0:=["places","ties","told","k","longer","some","first"]) (N':=["some","places","ties"]) (o:=1) (fr:=[0,1]) ⟨rfl,S,S,S,rfl,S⟩ (ZS K<|pv 2) (ZE J) (λ_ _ _ _=>(Zf (i:=0) (show List.Nodup (["some","places","ties"]:List Str) by decide +kernel) rfl<|Or.inl rfl)) (λ_ _ _ _=>(ZX5<|Zi Zz32 (Zc ZG3 XS T.n_len Boot.«len»<|Zz0 (Zj (ZU7 K rfl) XS T.n_set Boot.«set»<|Zz0 (Zz6 (Zs14 T) hr T.q_law_marks ZB<|Zz0 (pv 1)<|Zz0 (pv 2)<|Zz0 (pv 0) Zz3) Zz3) Zz3) Zz7<|Zq _)) λ_ _ _ _=>(pv 0)))),?_⟩
  obtain⟨g1,g2,g3,g4⟩:=id hG;have hlx:=hP.1
  have one:1<=sizeLine:=J;have big:∀k:Nat,k<=4->(cmb (ps.length:Int) k).length<=6561:=λk hk=>Yv (ZN8 p9 k) (by rcases(by omega:k=0\/k=1\/k=2\/k=3\/k=4) with e|e|e|e|e<;>rw[e]<;>decide)
  refine⟨Yr _,λt0 ht0=>⟨one,λd0 hd0=>?_⟩⟩;have s0:=ZA (Zz4 (o:=.tup []) ht0) (o:=.lst [.ref t0]) hd0
  have k0:(upd (upd H t0<|.tup []) d0<|.lst [.ref t0]) t0=some (.tup []):=Zz4 hd0 _ _ Zz1;refine⟨_,Z,_,_,Z,Z,_,Z,XT,XT,ZZ (lo:=0) (n:=(n-1).toNat) (λi σ H2=>∃(d:Addr)(ys:List V)(v3 v4 v5 v6:Option V),σ=[some (.int n),some<|.ref a,some<|.ref d,v3,v4,v5,v6]/\Same H H2/\H2 d=some (.lst ys)/\TupsV H2 ys (cmb (ps.length:Int) i))
   ⟨d0,[.ref t0],none,none,none,none,Z,s0,Zz1,.one ⟨t0,Z,k0⟩⟩ ?_ ?_⟩
  ·rintro i σ H2 hi ⟨d,ys,v3,v4,v5,v6,rfl,s2,hd,hL⟩;have hi4:i<4:=XT
   refine⟨Yr _,λe he=>?_⟩;have s3:=Zz4 (o:=.lst []) he
   refine⟨_,Z,d,Z,⟨_,SqL.of<|s3 _ _ hd⟩,Zr2 (K:=K) (a:=d) (xs:=ys) (λj σ H4=>∃(zs:List V)(v5 v6:Option V),σ=[some (.int n),some<|.ref a,some<|.ref d,some<|.int<|0+(i:Int),some<|.ref e,v5,v6]/\Same H2 H4/\H4 e=some (.lst zs)/\TupsV H4 zs (((cmb (ps.length:Int) i).take j).flatMap (ext1 (ps.length:Int))))
    ⟨[],_,_,Z,s3,Zz1,TupsV.nil⟩ (λj σ H4 _ zz=>by obtain⟨_,_,_,_,e,_⟩:=zz;exact SqL.of<|e _ _ hd) ?_ ?_⟩
   ·rintro j v σ H4 hj ⟨zs,v5,v6,rfl,s4,he4,hZ⟩;obtain⟨l,hl,tt,rfl,htt2⟩:=hL.at hj;have htt:=s4 _ _ htt2
    obtain⟨ll,hI⟩:=cmb_mem.mp (Yy8 hl);have zl:zs.length<=9*6561:=by
     rw[hZ.1];have h1:=Zz44 (m:=ps.length) ((cmb (ps.length:Int) i).take j) λs hs=>(cmb_mem.mp<|Yy19 hs).2
     have h2:=big i XT;have h3:((cmb (ps.length:Int) i).take j).length<=6561:=by rw[Yp];omega
     exact Yv h1 (Yy11 p9 h3)
    have nx0:0<=nxt l:=by
     unfold nxt;cases q:l.getLast? with
     |none=>exact Y0B 0
     |some x=>have:=(hI.all x<|Y1a q).1;show 0<=x+1;omega
    have nx1:nxt l<=30:=by
     unfold nxt;cases q:l.getLast? with
     |none=>show(0:Int)<=30;decide
     |some x=>have:=(hI.all x<|Y1a q).2;show x+1<=30;omega
    refine⟨_,Z,_,_,Z,Z,_,Z,?_⟩;refine itd2 (λhk=>?_) (λhk=>?_)
    ·have hne:l.length-1<l.length:=XT;obtain⟨y,hy⟩:∃y,l[l.length-1]?=some y:=⟨_,Yy0 hne⟩;have gl:l.getLast?=some y:=by rwa[List.getLast?_eq_getElem?]
     have hF:y+1=nxt l:=by unfold nxt;rw[gl]
     have hat:atI (IL l) (0+(i:Int)-1)=some (.int y):=Zw (n:=l.length-1) XT (Zh5 hy);refine⟨_,Z,_,Z,_,_,Z,Z,tt,_,_,_,Z,Z,SqT.of htt,hat,_,_,Z,Z,?_⟩;have f0:0<=(y+1):=by have h:=nx0;rwa[<-hF]at h
     have f1:(y+1)<=30:=by have h:=nx1;rwa[<-hF]at h
     refine⟨_,Z,.inl ⟨Z,_,SqL.of he4⟩,_,Z,_,Z,a,xs,Z,.inl<|(s2.trans s4).seq hA,(y+1),(xs.length:Int),Z,⟨XT,XT,XT,XT⟩,Zm2 (lo:=(y+1)) (n:=((xs.length:Int)-(y+1)).toNat) (λi2 ws H5=>Same H4 H5/\TupsV H5 ws ((List.range i2).map λ(t:Nat)=>l++[(y+1)+(t:Int)])) ⟨Same.refl _,TupsV.nil⟩ (Zp XT) (λi2 ws H5 _ zz=>by obtain⟨_,e⟩:=zz;rw[e.1,Yy9,YK];exact Yy6 _) ?_ ?_⟩
     ·rintro i2 ws H5 hi2 ⟨s5,hW⟩ XW hSS;refine nm ?_;refine⟨_,Z,_,Z,one,λp2 hp2=>?_⟩;have s6:=Zz4 (o:=.tup<|IL [(y+1)+(i2:Int)]) hp2
      have s56:=s5.trans s6;refine⟨tt,p2,IL l,IL [(y+1)+(i2:Int)],Z,Z,SqT.of<|s56 _ _ htt,SqT.of Zz1,ZK1 (by rw[Zz8,Zz8,Yq,Y1M];omega),λe=>?_,λ_ e=>(nomatch e),λ_ _ p3 hp3=>?_⟩
      ·refine hSS _ _ ⟨s56,?_⟩;have e0:l=[]:=by cases h:l with|nil=>rfl|cons x r=>rw[h]at e;cases e
       rw[Y0q,Yz];exact(hW.same s6).snoc ⟨p2,Z,by rw[e0];exact Zz1⟩
      ·refine hSS _ _ ⟨s56.trans<|Zz4 hp3,?_⟩;rw[Y0q,Yz];exact((hW.same s6).same (Zz4 hp3)).snoc ⟨p3,Z,by rw[Zz1];congr 2;exact(Yz ..).symm⟩
     ·rintro ws H5 ⟨s5,hW⟩ p hp;have s6:=s5.trans (Zz4 (o:=.lst ws) hp)
      have he6:=s6 _ _ he4;have wl:ws.length<=100:=by rw[hW.1,Yy9,YK];omega
      refine⟨e,p,zs,ws,Z,Z,he6,Zz1,ZK1 XT,?_⟩;refine⟨_,_,_,Z,Zu he<|s4.trans s6,Zz1,?_⟩;rw[ZO4 hl];have ee:ext1 (ps.length:Int) l=(List.range ((xs.length:Int)-(y+1)).toNat).map λ(t:Nat)=>l++[(y+1)+(t:Int)]:=by unfold ext1;rw[<-hF,hlx]
      rw[ee];exact(((hZ.same s6).app (hW.same<|Zz4 hp))).mut he6
    ·have hF:(0:Int)=nxt l:=by have:l=[]:=YH.mp XT;rw[this];rfl
     have f0:0<=(0:Int):=by have h:=nx0;rwa[<-hF]at h
     have f1:(0:Int)<=30:=by have h:=nx1;rwa[<-hF]at h
     refine⟨_,Z,.inl ⟨Z,_,SqL.of he4⟩,_,Z,_,Z,a,xs,Z,.inl<|(s2.trans s4).seq hA,(0:Int),(xs.length:Int),Z,⟨XT,XT,XT,XT⟩,Zm2 (lo:=(0:Int)) (n:=((xs.length:Int)-(0:Int)).toNat) (λi2 ws H5=>Same H4 H5/\TupsV H5 ws ((List.range i2).map λ(t:Nat)=>l++[(0:Int)+(t:Int)])) ⟨Same.refl _,TupsV.nil⟩ (Zp XT) (λi2 ws H5 _ zz=>by obtain⟨_,e⟩:=zz;rw[e.1,Yy9,YK];exact Yy6 _) ?_ ?_⟩
     ·rintro i2 ws H5 hi2 ⟨s5,hW⟩ XW hSS;refine nm ?_;refine⟨_,Z,_,Z,one,λp2 hp2=>?_⟩;have s6:=Zz4 (o:=.tup<|IL [(0:Int)+(i2:Int)]) hp2
      have s56:=s5.trans s6;refine⟨tt,p2,IL l,IL [(0:Int)+(i2:Int)],Z,Z,SqT.of<|s56 _ _ htt,SqT.of Zz1,ZK1 (by rw[Zz8,Zz8,Yq,Y1M];omega),λe=>?_,λ_ e=>(nomatch e),λ_ _ p3 hp3=>?_⟩
      ·refine hSS _ _ ⟨s56,?_⟩;have e0:l=[]:=by cases h:l with|nil=>rfl|cons x r=>rw[h]at e;cases e
       rw[Y0q,Yz];exact(hW.same s6).snoc ⟨p2,Z,by rw[e0];exact Zz1⟩
      ·refine hSS _ _ ⟨s56.trans<|Zz4 hp3,?_⟩;rw[Y0q,Yz];exact((hW.same s6).same (Zz4 hp3)).snoc ⟨p3,Z,by rw[Zz1];congr 2;exact(Yz ..).symm⟩
     ·rintro ws H5 ⟨s5,hW⟩ p hp;have s6:=s5.trans (Zz4 (o:=.lst ws) hp)
      have he6:=s6 _ _ he4;have wl:ws.length<=100:=by rw[hW.1,Yy9,YK];omega
      refine⟨e,p,zs,ws,Z,Z,he6,Zz1,ZK1 XT,?_⟩;refine⟨_,_,_,Z,Zu he<|s4.trans s6,Zz1,?_⟩;rw[ZO4 hl];have ee:ext1 (ps.length:Int) l=(List.range ((xs.length:Int)-(0:Int)).toNat).map λ(t:Nat)=>l++[(0:Int)+(t:Int)]:=by unfold ext1;rw[<-hF,hlx]
      rw[ee];exact(((hZ.same s6).app (hW.same<|Zz4 hp))).mut he6
   ·rintro σ H4 ⟨zs,v5,v6,rfl,s4,he4,hZ⟩;refine⟨_,Z,e,zs,_,_,_,_,Z,s2.trans s4,he4,?_⟩;rwa[hL.1,YC]at hZ
  ·rintro σ H2 ⟨d,ys,v3,v4,v5,v6,rfl,s2,hd,hL⟩;refine⟨_,Z,d,Z,⟨_,SqL.of hd⟩,Zx1 (K:=K) (a:=d) (xs:=ys) (λi ws H3=>Same H2 H3/\i<=ys.length/\TupsV H3 ws (((cmb (ps.length:Int) (n-1).toNat).take i).filter λl=>decide<|(L2.seen<|lms n.toNat<|Za ps l).length=1)) ⟨Same.refl _,Yr _,TupsV.nil⟩ (Zp<|by rw[hL.1];have:=big (n-1).toNat XT;omega)
    (λi ws H3 hi zz=>by obtain⟨e,hi2,ey⟩:=zz;exact⟨SqL.of<|e _ _ hd,by rw[ey.1];exact Yv (Y3s ..)<|by rw[Yp];omega⟩) ?_ ?_⟩
   ·rintro i v ws H3 hi ⟨s3,hil,hW⟩ XW hSS;obtain⟨l,hl,tt,rfl,htt2⟩:=hL.at hi;have htt:=s3 _ _ htt2
    have hil':i<ys.length:=(Yy4.mp hi).1;obtain⟨ll,hI⟩:=cmb_mem.mp (Yy8 hl);have s23:=s2.trans s3
    refine nm ?_;refine⟨_,Z,_,Z,_,Z,n,a,tt,xs,ps,true,l,Z,s23.seq hA,hP.same s23,hG,SqT.of htt,hI.all,λm H7 s7 hm0 hm7=>?_⟩;have lL:(lms n.toNat<|Za ps l).length=n.toNat:=Zy _ _
    have sl1:(L2.seen<|lms n.toNat<|Za ps l).length<=(lms n.toNat<|Za ps l).length:=PyProof.Rows.firstMet_length_le _ _;refine⟨m,lms n.toNat<|Za ps l,Z,SqL.of hm7,(by show(lms n.toNat<|Za ps l).length+1<4096;omega),λst hst=>?_⟩;have s8:=Zz4 (o:=.set (λk=>(L2.seen<|lms n.toNat<|Za ps l).any (· == k)) (L2.seen<|lms n.toNat<|Za ps l).length) hst
    refine⟨st,_,_,Z,Zz1,XT,Z,_,Z,?_⟩;rw[Zz];refine itd2 (λhc=>?_) (λhc=>?_)
    ·refine⟨_,Z,hSS _ _ ⟨(s3.trans s7).trans s8,hil',?_⟩⟩;rw[Yz3 hl,if_pos (YG XT)];exact((hW.same s7).same s8).snoc ⟨tt,Z,s8 _ _<|s7 _ _ htt⟩
    ·refine hSS _ _ ⟨(s3.trans s7).trans s8,hil',?_⟩;rw[Yz3 hl,if_neg (by rw[YT];omega),Yy04];exact(hW.same s7).same s8
   ·rintro ws H3 ⟨s3,_,hW⟩ p hp;rw[hL.1,YC]at hW;refine q p ws _ _ ((s2.trans s3).trans (Zz4 hp)) Zz1 (hW.same<|Zz4 hp) ?_ (λl=>?_) ((Zz37 _ _).sublist List.filter_sublist)
    ·exact Yv (Y3s ..) (by have:=big (n-1).toNat XT;omega)
    ·rw[Yy,cmb_mem,YT];constructor
     ·rintro⟨⟨h1,h2⟩,h3⟩;exact⟨h2,XT,(Zt4 XT<|ZV hG h2.all).mp h3⟩
     ·rintro⟨h1,h2,h3⟩;exact⟨⟨XT,h1⟩,(Zt4 XT<|ZV hG h1.all).mpr h3⟩
noncomputable def Zz414(K:PySem.W.Frag):Sp:=λvs H Q _=>∃(a:Addr)(ns:List Int)(c:Nat),vs=[.ref a,.int c]/\SqL K H a (IL ns)/\ns.length<=63/\c<=30/\
 ∀r l H',Same H H'->H r=none->H' r=some (.lst<|IL l)->l.length=c->Told l->Q (.ref r) H'
theorem scZ71:FnScope ["script","count","folded","k","told","m"] ["script","count"] (Zz9 (top 115)):=Zf1 S
theorem Zq14(T:Txt K mg t):OkQ P w base CX0 T.q_law_lengths 2 (Zz414 K):=by
 refine T.q_law_lengths.ok ["script","count","folded","k","told","m"] S (λvs H Q E h=>?_) (λcdv A outer s H vs Q E hr h=>?_)
 ·obtain⟨a,ns,c,rfl,_⟩:=h;rfl
 ·obtain⟨a,ns,c,rfl,hA,hn63,hc,q⟩:=h;refine⟨_,(Zz2 (Zo7 (i:=2) Z scZ71.nd Z Z (sc0:=Zz9<|top 115) (N0:=["script","count","folded","k","told","m"]) (N':=["k"]) (o:=1) (fr:=[]) ⟨Z,S,S,S,Z,S⟩ (ZR Z T.n_range<|Zz0 (pv 1) Zz3) (ZE J) (λ_ _ _ _=>(Zf (i:=0) (show List.Nodup (["k"]:List Str) by decide +kernel) Z<|Or.inl Z)) (λ_ _ _ _=>ZP) λ_ _ _ _=>(Zn Zc1 (Zn Zk2 Zz7<|pv 0) Zz7))
   (Zz2 (ZX YM Z (ZR Z T.n_range<|Zz0 (Zc (Zh K) XS T.n_len Boot.«len»<|Zz0 (pv 0) Zz3) Zz3) (Zf (i:=3) scZ71.nd Z<|Or.inl Z)
   (Zz5 (Zz61 (Zi Zf8 (pv 1) Zz7<|Zq _)
   (Zz5<|ZP3 (Zn ZM (Zn Zc1 (Zn Zk2 (ZC (Zb K) (pv 2) (Zn ZM (pv 3)<|pv 1) λ_ _=>rfl) Zz7)<|ZC (Zb K) (pv 0) (pv 3) λ_ _=>rfl)<|Zn Zp3 Zz7 Zz7)<|Zq7 (pv 2) (Zn ZM (pv 3)<|pv 1) Zt1)
   Zm)))
   (Zz2 (Zg (i:=4) scZ71.nd Z (Or.inl Z)<|ZT Zz3)
   (Zz2 (ZX YM Z (ZR Z T.n_range<|Zz0 (pv 1) Zz3) (Zf (i:=3) scZ71.nd Z<|Or.inl Z)
   (Zz2 (Zg (i:=5) scZ71.nd Z (Or.inl Z)<|Zz6 (Zk13 T) hr T.q_law_mixed ZB<|Zz0 (ZC (Zb K) (pv 2) (pv 3) λ_ _=>rfl)<|Zz0 (Zn Zc1 Zz7<|pv 3) Zz3)
   (Zz5<|ZQ<|Zk1 K YY Yy06 Yy05 Zz91 (pv 4)<|Zz0 (ZC (Zb K) (ZT<|Zz0 (Zn ZM (Zn Zg1 (pv 5) Zz7) Zz7)<|Zz0 (Zn Zz22 (Zn ZM (Zn Zg1 (pv 5) Zz7) Zz7) Zz7)<|Zz0 Zz7<|Zz0 (Zn Zz22 (Zn ZM (ZC (Zb K) (pv 2) (pv 3) λ_ _=>rfl)<|Zn Zk2 Zz7<|Zn Zp3 Zz7 Zz7)<|Zn Zp3 Zz7 Zz7) Zz3) (Zn ZM (pv 5) Zz7) λ_ _=>rfl) Zz3)))
   (Zz5<|Zk<|pv 4))))),?_⟩
  have four:4<=sizeLine:=J;refine⟨_,Z,(c:Int),Z,O,O,Zm2 (lo:=0) (n:=((c:Int)).toNat) (λi ys H3=>H3=H/\∃fs:List Int,ys=IL fs/\fs.length=i) ⟨Z,[],Z,Z⟩ (Zp O) (λi ys H3 _ zz=>by obtain⟨_,fs,e,el⟩:=zz;rw[e,Zz8];lia) ?_ ?_⟩
  ·rintro i ys H3 hi ⟨rfl,fs,rfl,el2⟩ XW hSS;refine nmY ?_;refine⟨_,Z,_,_,Z,Z,.inl ⟨J,J⟩,_,_,Z,Z,?_⟩;refine hSS _ _ ⟨Z,fs++[5*(0+(i:Int))+2],?_,?_⟩
   ·exact(Zr1 _ _).symm
   ·rw[Yy3,el2];rfl
  rintro ys H3 ⟨rfl,fs,rfl,el2⟩ l3 hl3;have s3:=Zz4 (o:=.lst<|IL fs) hl3
  refine nm ?_;refine⟨_,Z,a,_,Z,.inl<|s3.seq hA,_,Z,O,by rw[Zz8];omega,ZZ (lo:=0) (n:=((IL ns).length:Int).toNat) (λj σ H4=>∃fs v3,σ=[some (.ref a),some<|.int c,some<|.ref l3,v3,none,none]/\Same H3 H4/\H4 l3=some (.lst<|IL fs)/\fs.length=c) ⟨fs,none,Z,s3,Zz1,by rw[el2];lia⟩ ?_ ?_⟩
  ·rintro j σ H4 hj ⟨gs,v3,rfl,s4,h4,eg⟩;rw[Zz8]at hj;refine nm ?_;dsimp only;refine⟨_,Z,_,_,Z,Z,_,Z,?_⟩;refine itd2 (λhc0=>?_) λ_=>⟨gs,_,Z,s4,h4,eg⟩;have at0:0<=(0+(j:Int))%(c:Int):=YW _ O
   have at1:(0+(j:Int))%(c:Int)<(c:Int):=YZ _ hc0;generalize hat:(0+(j:Int))%(c:Int)=at' at *;obtain⟨f,hf⟩:∃f,gs[at'.toNat]?=some f:=⟨_,Yy0 XR⟩;obtain⟨z,hz⟩:∃z,ns[j]?=some z:=⟨_,Yy0 O⟩;refine⟨_,Z,_,Z,_,Z,_,_,Z,Z,hc0,l3,_,_,_,Z,Z,SqL.of h4,by rw[hat];exact Zw (n:=at'.toNat) O<|Zh5 hf,_,_,Z,Z,.inr ⟨J,J⟩,_,Z,_,Z,a,_,_,_,Z,Z,s4.seq hA,Zw (n:=j) O<|Zh5 hz,_,_,Z,Z,_,_,Z,Z,⟨J,J,J⟩,_,_,Z,Z,(by show(0:Int)<10^60;decide),?_⟩;refine⟨_,Z,_,Z,_,Z,_,_,Z,Z,hc0,l3,_,_,at'.toNat,Z,Z,h4,?_,?_⟩
   ·rw[hat];unfold ixN;rw[if_pos at0,if_pos (by rw[Zz8];grind)]
   ·refine⟨gs.set at'.toNat<|(f*7+z)%(10:Int)^((60:Int).toNat),_,Z,Zu hl3 s4,?_,by rwa[Y0i]⟩;rw[Zz1,Zz110]
  rintro σ H4 ⟨gs,v3,rfl,s4,h4,eg⟩;refine⟨Yr _,λl5 hl5=>?_⟩;have n35:l3≠l5:=Ze h4 hl5
  have hl50:H3 l5=none:=s4.free hl5;have u5:=Zz4 (o:=.lst []) hl5
  have s5:=s4.trans u5;have h35:=u5 _ _ h4
  have h55:(upd H4 l5<|.lst []) l5=some (.lst<|IL []):=Zz1;generalize upd H4 l5 (.lst [])=H5 at *;refine nm ?_;refine⟨_,Z,_,Z,O,O,ZZ (lo:=0) (n:=((c:Int)).toNat) (λj σ H6=>∃L v3 v5,σ=[some (.ref a),some<|.int c,some<|.ref l3,v3,some<|.ref l5,v5]/\Same H3 H6/\H6 l3=some (.lst<|IL gs)/\H6 l5=some (.lst<|IL L)/\L.length=j/\Told L) ⟨[],v3,none,Z,s5,h35,h55,Z,λz hz=>(by cases hz)⟩ ?_ ?_⟩;rotate_left
  ·rintro σ H6 ⟨L,w3,w5,rfl,s6,_,h56,hL,hT⟩;exact⟨_,Z,q l5 L H6 s6 hl50 h56 O hT⟩
  rintro j σ H6 hj ⟨L,w3,w5,rfl,s6,h36,h56,hL,hT⟩;obtain⟨f,hf⟩:∃f,gs[j]?=some f:=⟨_,Yy0 XR⟩;have hfa:atI (IL gs) (0+(j:Int))=some (.int f):=Zw (n:=j) O (Zh5 hf)
  refine nm ?_;dsimp only;refine⟨_,Z,_,Z,l3,_,_,_,Z,Z,SqL.of h36,hfa,_,Z,_,_,Z,Z,_,_,Z,λm m0 m1=>?_⟩;refine nm ?_;have d8:0<=m/8:=O
  refine⟨_,Z,.inl ⟨Z,_,SqL.of h56⟩,_,Z,_,_,Z,Z,⟨J,J⟩,_,_,Z,Z,(by show(0:Int)<5;decide),_,Z,_,_,Z,Z,⟨J,J⟩,_,_,Z,Z,(by show(0:Int)<19;decide),_,_,Z,Z,_,Z,_,Z,l3,_,_,_,Z,Z,SqL.of h36,hfa,_,_,Z,Z,⟨J,J,J⟩,_,_,Z,Z,.inl ⟨J,J⟩,_,_,Z,Z,(by show(0:Int)<2*10^59;decide),_,_,Z,Z,⟨J,J,J⟩,_,_,Z,Z,four,λc4 hc4=>?_⟩;obtain⟨x,hx,hxb⟩:∃x:Int,atI (IL [m/8%5,m/8%19-9,1,f%(2*10^(59:Int).toNat)-10^(59:Int).toNat]) (m%4)=some (.int x)/\(-(10^60)<x/\x<(10:Int)^60):=by
   have p59:(10:Int)^(59:Int).toNat=10^59:=rfl;have e4:0<=f%(2*10^59)/\f%(2*10^59)<2*10^59:=⟨YW _ J,YZ _ J⟩
   rcases(by lia:m%4=0\/m%4=1\/m%4=2\/m%4=3) with e|e|e|e<;>rw[e]
   ·exact⟨_,Z,XR⟩
   ·exact⟨_,Z,XR⟩
   ·exact⟨_,Z,O⟩
   ·refine⟨_,Z,?_⟩;rw[p59];lia
  have w1:=Zz4 (o:=.lst<|IL [m/8%5,m/8%19-9,1,f%(2*10^(59:Int).toNat)-10^(59:Int).toNat]) hc4;refine⟨_,Z,_,_,Z,Z,(by show(0:Int)<4;decide),c4,_,_,.int x,Z,Z,SqL.of Zz1,hx,?_⟩;refine⟨l5,_,_,Z,Z,w1 _ _ h56,Zp (by rw[Zz8];grind),L++[x],_,_,Z,Zu hl50<|s6.trans w1,?_,by rw[Zz1,Zr1],by rw[Yy3,hL];rfl,λz hz=>(Yj.mp hz).elim (hT z) λh=>by rwa[Yy2.mp h]⟩;rw[Zd n35];exact w1 _ _ h36
noncomputable def Zz314(K:PySem.W.Frag):Sp:=λvs H Q _=>∃n a b xs ps ls,vs=[.int n,.ref a,.ref b]/\SqL K H a xs/\PairsV H xs ps/\SqL K H b (IL ls)/\ZL n ps/\ls.length=ps.length/\Told ls/\∀H':Hp,Same H H'->Q (.str<|Zr5 n ps ls) H'
theorem scZ81:FnScope ["places","ties","lengths","lines","k","words"] ["places","ties","lengths"] (Zz9 (top 116)):=Zf1 S
theorem Zp14(T:Txt K mg t):OkQ P w base CX0 T.q_law_text 1 (Zz314 K):=by
 refine T.q_law_text.ok ["places","ties","lengths","lines","k","words"] S (λvs H Q E h=>?_) (λcdv A outer s H vs Q E hr h=>?_)
 ·obtain⟨n,a,b,xs,ps,ls,rfl,_⟩:=h;rfl
 ·obtain⟨n,a,b,xs,ps,ls,rfl,hA,hP,hB,hG,hl,hT,q⟩:=h;refine⟨_,(Zz2 (Zg (i:=3) scZ81.nd Z (Or.inl Z)<|ZT<|Zz0 (Zn ZU Zr<|Zj ZI XS T.n_str Boot.«str»<|Zz0 (pv 0) Zz3) Zz3)
   (Zz2 (ZX YM Z (ZR Z T.n_range<|Zz0 (Zc (Zh K) XS T.n_len Boot.«len»<|Zz0 (pv 1) Zz3) Zz3) (Zf (i:=4) scZ81.nd Z<|Or.inl Z)
   (Zz2 (Zg (i:=5) scZ81.nd Z (Or.inl Z)<|ZT<|Zz0 Zr<|Zz0 (Zj ZI XS T.n_str Boot.«str»<|Zz0 (ZC (ZN K) (ZC (Zb K) (pv 1) (pv 4) λ_ _=>rfl) Zz7 λ_ _=>rfl) Zz3)<|Zz0 (Zj ZI XS T.n_str Boot.«str»<|Zz0 (ZC (ZN K) (ZC (Zb K) (pv 1) (pv 4) λ_ _=>rfl) Zz7 λ_ _=>rfl) Zz3) Zz3)
   (Zz5<|ZQ<|Zk1 K YY Yy06 Yy05 Zz91 (pv 3)<|Zz0 (Zk1 K Y0b Y1z Y1y (ZU2 K) Zr<|Zz0 (Zn Zt7 (pv 5)<|ZT<|Zz0 (Zj ZI XS T.n_str Boot.«str»<|Zz0 (ZC (Zb K) (pv 2) (pv 4) λ_ _=>rfl) Zz3) Zz3) Zz3) Zz3)))
   (Zz5<|Zk<|Zk1 K Y0b Y1z Y1y (ZU2 K) Zr<|Zz0 (pv 3) Zz3))),?_⟩
  have hxl:=hP.1;have hp30:=hG.2.2.1
  have hn1:=hG.1;have hn2:=hG.2.1
  have one:1<=sizeLine:=J;have three:3<=sizeLine:=J
  have z1:100000<=sizeLine:=J;have nl:=Zs3 (i:=n) (k:=60) J O O
  refine⟨_,Z,n,Z,O,O,_,_,Z,Z,?_,one,λd hd=>?_⟩
  ·show 7+(nT n).length<=_;lia
  have u1:=Zz4 (o:=.lst<|TL<|webT n (ps.take 0)<|ls.take 0) hd;refine nm ?_;refine⟨_,Z,a,_,Z,.inl<|u1.seq hA,_,Z,O,O,ZZ (lo:=0) (n:=(xs.length:Int).toNat) (λi σ H4=>∃v4 v5,σ=[some (.int n),some<|.ref a,some<|.ref b,some<|.ref d,v4,v5]/\Same H H4/\H4 d=some (.lst<|TL<|webT n (ps.take i)<|ls.take i)) ⟨none,none,Z,u1,Zz1⟩ ?_ ?_⟩
  ·rintro i σ H4 hi ⟨v4,v5,rfl,s4,h4⟩;have hi2:i<ps.length:=O
   obtain⟨v,hv⟩:∃v,xs[i]?=some v:=⟨_,Yy0 O⟩;obtain⟨p,hp,tt,rfl,htt⟩:=hP.at hv;obtain⟨l,hll⟩:∃l,ls[i]?=some l:=⟨_,Yy0 O⟩;have htold:=ZJ2 hG hT hp hll
   have b1:=htold p.1 B;have b2:=htold p.2 B
   have b3:=htold l B;refine nm ?_;dsimp only;have ia:atI xs (0+(i:Int))=some (.ref tt):=Zw (n:=i) O hv
   refine⟨_,Z,_,Z,a,_,_,.ref tt,Z,Z,s4.seq hA,ia,tt,_,0,.int p.1,Z,Z,SqT.of<|s4 _ _ htt,Z,p.1,Z,O,O,_,Z,_,Z,a,_,_,.ref tt,Z,Z,s4.seq hA,ia,tt,_,1,.int p.2,Z,Z,SqT.of<|s4 _ _ htt,Z,p.2,Z,O,O,three,λc hc=>?_⟩;have u2:=Zz4 (o:=.lst<|TL [Str.ofString "tie",nT p.1,nT p.2]) hc
   have s5:=s4.trans u2;have h5:=u2 _ _ h4
   have hc5:(upd H4 c<|.lst<|TL [Str.ofString "tie",nT p.1,nT p.2]) c=some (.lst<|TL [Str.ofString "tie",nT p.1,nT p.2]):=Zz1;refine nm ?_;dsimp only;change ZI13 _ _ _ (upd H4 c<|.lst<|TL [Str.ofString "tie",nT p.1,nT p.2]);generalize upd H4 c (.lst<|TL [Str.ofString "tie",nT p.1,nT p.2])=H5 at *;refine⟨_,Z,.inl ⟨Z,_,SqL.of h5⟩,Z,_,Z,_,Z,_,Z,b,_,_,.int l,Z,Z,s5.seq hB,Zw (n:=i) O<|Zh5 hll,l,Z,O,O,one,λc2 hc2=>?_⟩;have u3:=Zz4 (o:=.lst<|TL [nT l]) hc2
   refine⟨c,c2,_,TL [nT l],Z,Z,u3 _ _ hc5,Zz1,(show 3+1<=sizeLine by decide),λc3 hc3=>?_⟩;have u4:=Zz4 (o:=.lst<|TL [Str.ofString "tie",nT p.1,nT p.2]++TL [nT l]) hc3
   have u34:=u3.trans u4;have wl:(webT n (ps.take i)<|ls.take i).length<=31:=by rw[Zc3 (by rw[Yp,Yp];lia),Yp];grind
   refine⟨_,c3,[Str.ofString "tie",nT p.1,nT p.2,nT l],Z,Z,SqL.of Zz1,?_,?_⟩
   ·show JoinOk Zs _=true;rw[Ze1];refine ZH4 (XU:=61) (λa ha=>?_) (by show 4*61+4<=_;decide);rcases Ye.mp ha with e|e
    ·rw[e];decide
    ·exact Zc2 htold a e
   refine⟨d,_,_,Z,Z,u34 _ _ h5,Zp (by rw[Zx];lia),_,_,Z,Zu hd<|s5.trans u34,?_⟩;rw[Zz1];show some (HO.lst<|TL (webT n (ps.take i)<|ls.take i)++[.str (Zz04 p l)])=_
   rw[ZC5,Zk4 hp hll]
  rintro σ H4 ⟨v4,v5,rfl,s4,h4⟩;rw[show(xs.length:Int).toNat=ps.length by lia,YC,<-hl,YC]at h4;refine⟨Z,_,Z,_,d,_,Z,Z,SqL.of h4,?_,q H4 s4⟩;show JoinOk nlS _=true
  rw[ZD12];exact ZH4 (XU:=400) (ZI3 hG hT) (by rw[Zc3 hl];lia)
noncomputable def noA:List Str:=["","Count","count 1","counts","tree","tree x","tree 01","tree 1 2","row","row -0","rank"]
noncomputable def noB:List Str:=["number","number x","number  1","place","next","next 1 "," count","share","share +1"]
noncomputable def noC:List Str:=["cheapest 0","rank x"]
noncomputable def noD:List Str:=["ties 1","-",Str.ofString "tree "++repT (Str.ofString "7") 61,"number - 1","place 1 -","share 1 - 2","rank 1 2","none"]
noncomputable def noL:List Str:=noA++noB++noC++noD
theorem ZG9:∀x∈noL,(x.cps.all λc=>decide (c<128))=true/\x.length<=90000/\badL (Txt.split x Zs)=true:=by decide +kernel
theorem Zw11:noL.length=30:=by decide +kernel
noncomputable def Zz214:Sp:=λvs H Q _=>vs=[]/\∀r H',Same H H'->H' r=some (.lst<|TL noL)->Q (.ref r) H'
theorem scZ91:FnScope ["some"] [] (Zz9 (top 117)):=Zf1 S
theorem Zo14(T:Txt K mg t):OkQ P w base CX0 T.q_law_no_lines 1 Zz214:=by
 refine T.q_law_no_lines.ok ["some"] S (λvs H Q E h=>?_) (λcdv A outer s H vs Q E hr h=>?_)
 ·obtain⟨rfl,_⟩:=h;rfl
 ·obtain⟨rfl,q⟩:=h;refine⟨_,(@Zz2 _ _ _ _ _ (@Zg _ _ 0 _ _ _ _ scZ91.nd Z (Or.inl Z) Zb8 Z<|.inl Z)
   (@Zz2 _ _ _ _ _ (@Zg _ _ 0 _ _ _ _ scZ91.nd Z (Or.inl Z) (@Zn _ _ _ _ _ _ _ _ (ZE2 K) (pv 0) Zb8) Z<|.inl Z)
   (@Zz2 _ _ _ _ _ (@Zg _ _ 0 _ _ _ _ scZ91.nd Z (Or.inl Z) (@Zn _ _ _ _ _ _ _ _ (ZE2 K) (pv 0)<|@Zi11 _ _ _ _ _ _ Zr Zr Z Z) Z<|.inl Z)
   (@Zz5 _ _ _<|@Zk _ _ _ _<|@Zn _ _ _ _ _ _ _ _ (ZE2 K) (pv 0)<|ZT<|Zz0 Zr<|Zz0 Zr<|Zz0 (@Zn _ _ _ _ _ _ _ _ ZU Zr<|@Zn _ _ _ _ _ _ _ _ Zn11 Zr Zz7) Zz76)))),?_⟩
  have z1:100<=sizeLine:=J;refine⟨noA,Z,(by show 11<=sizeLine;omega),λa ha=>?_⟩;have u1:=Zz4 (o:=.lst<|noA.map V.str) ha
  have k1:=Zz1 (H:=H) (a:=a) (o:=.lst<|noA.map V.str);generalize upd H a (.lst<|noA.map V.str)=H1 at *;refine nm ?_;dsimp only[List.set];refine⟨_,Z,noB,Z,(by show 9<=sizeLine;omega),λb hb=>?_⟩;have u2:=Zz4 (o:=.lst<|noB.map V.str) hb
  refine⟨a,b,_,_,Z,Z,SqL.of<|u2 _ _ k1,SqL.of Zz1,(by show 20<=sizeLine;omega),λc hc=>?_⟩;have u3:=u1.trans (u2.trans<|Zz4 (o:=.lst<|noA.map V.str++noB.map V.str) hc)
  have k3:=Zz1 (H:=upd H1 b<|.lst<|noB.map V.str) (a:=c) (o:=.lst<|noA.map V.str++noB.map V.str);generalize upd (upd H1 b<|.lst<|noB.map V.str) c (.lst<|noA.map V.str++noB.map V.str)=H3 at *;refine nm ?_;dsimp only[List.set];refine⟨_,Z,(by show 2<=sizeLine;omega),λb2 hb2=>?_⟩;have u4:=Zz4 (o:=.lst<|[V.str (Str.ofString "cheapest 0"),V.str (Str.ofString "rank x")]) hb2
  refine⟨c,b2,_,_,Z,Z,SqL.of<|u4 _ _ k3,SqL.of Zz1,(by show 22<=sizeLine;omega),λd hd=>?_⟩;have u5:=u3.trans (u4.trans<|Zz4 (o:=.lst<|noA.map V.str++noB.map V.str++[V.str (Str.ofString "cheapest 0"),V.str (Str.ofString "rank x")]) hd)
  have k5:=Zz1 (H:=upd H3 b2<|.lst<|[V.str (Str.ofString "cheapest 0"),V.str (Str.ofString "rank x")]) (a:=d) (o:=.lst<|noA.map V.str++noB.map V.str++[V.str (Str.ofString "cheapest 0"),V.str (Str.ofString "rank x")]);generalize upd (upd H3 b2<|.lst<|[V.str (Str.ofString "cheapest 0"),V.str (Str.ofString "rank x")]) d (.lst<|noA.map V.str++noB.map V.str++[V.str (Str.ofString "cheapest 0"),V.str (Str.ofString "rank x")])=H5 at *;refine nm ?_;dsimp only[List.set];refine⟨_,Z,_,61,Z,Z,J,J,S,S,Yv (show _<=61 by decide +kernel) XT,_,_,Z,Z,Yv (show _<=66 by decide +kernel) XT,["number - 1","place 1 -","share 1 - 2","rank 1 2","none"],Z,(by show 8<=sizeLine;omega),λf hf=>?_⟩;have u6:=Zz4 (o:=.lst<|noD.map V.str) hf
  refine⟨d,f,_,_,Z,Z,SqL.of<|u6 _ _ k5,SqL.of (xs:=noD.map V.str) Zz1,(by show 30<=sizeLine;omega),λr hr=>?_⟩;refine q r _ (u5.trans<|u6.trans<|Zz4 hr) ?_;rw[Zz1];unfold noL TL;rw[Yz,Yz,Yz];rfl
noncomputable def dueZ (many count far:Int):List (Str×List Int×Int):=[("tree",[-1],0),("tree",[many],0),("row",[-1],0),("row",[many+far],0),("number",[count],1),("place",[-1],1),("next",[0,0],1),("number",[1,0],1),("share",[count],2),("share",[0,0],2),("share",[-1],2),("share",[1,0],2)]
noncomputable def askT(p:Str×List Int×Int):Str:=Str.join Zs (p.1::p.2.1.map nT)
noncomputable def DueV(H:Hp)(v:V)(p:Str×List Int×Int):Prop:=∃t,v=.ref t/\H t=some (.tup [.str (askT p),.int p.2.2])
theorem Zz15{nm b:Str}{z:Int}{k:Int}(h:b=nm++Zs):b++Str.ofString (toString z)=askT (nm,[z],k):=by rw[h];rfl
theorem Zx10{α:Type}[DecidableEq α]{R:V->α->Prop}{a b c d:V}{p q r s:α}(h0:R a p)(h1:R b q)(h2:R c r)(h3:R d s):Bears R [a,b,c,d] [p,q,r,s]:=
 Bears.snoc (xs:=[a,b,c]) (l:=[p,q,r]) (Bears.snoc (xs:=[a,b]) (l:=[p,q]) (Bears.snoc (xs:=[a]) (l:=[p]) (Bears.snoc (xs:=[]) (l:=[]) ⟨Z,λi a e=>by cases e⟩ h0) h1) h2) h3
noncomputable def Zz114:Sp:=λvs H Q _=>∃many count far:Int,vs=[.int many,.int count,.int far]/\0<=many/\many<=10^20/\0<=count/\count<=30/\0<=far/\far<10^50/\∀r ys H',Same H H'->H' r=some (.lst ys)->Bears (DueV H') ys (dueZ many count far)->Q (.ref r) H'
theorem scZa1:FnScope ["many","count","far","some"] ["many","count","far"] (Zz9 (top 118)):=Zf1 S
theorem Zn14(T:Txt K mg t):OkQ P w base CX0 T.q_law_due_lines 1 Zz114:=by
 refine T.q_law_due_lines.ok ["many","count","far","some"] S (λvs H Q E h=>?_) (λcdv A outer s H vs Q E hr h=>?_)
 ·obtain⟨many,count,far,rfl,_⟩:=h;rfl
 ·obtain⟨many,count,far,rfl,m0,m1,c0,c1,f0,f1,q⟩:=h;refine⟨_,(@Zz2 _ _ _ _ _ (@Zg _ _ 3 _ _ _ _ scZa1.nd Z (Or.inl Z) (@Zz46 _ _ _ _ _ _ _ _ _ _ (@Zp1 _ _ _ _ _ _ _ Zr Zz7 Z Z) (@Zp1 _ _ _ _ _ _ _ (@Zn _ _ _ _ _ _ _ _ ZU Zr<|Zj ZI XS T.n_str Boot.«str»<|Zz0 (pv 0) Zz3) Zz7 Z Z) (@Zp1 _ _ _ _ _ _ _ Zr Zz7 Z Z) (@Zp1 _ _ _ _ _ _ _ (@Zn _ _ _ _ _ _ _ _ ZU Zr<|Zj ZI XS T.n_str Boot.«str»<|Zz0 (@Zn _ _ _ _ _ _ _ _ Zc1 (pv 0)<|pv 2) Zz3) Zz7 Z Z) Z Z Z Z) Z<|.inl Z)
   (@Zz2 _ _ _ _ _ (@Zg _ _ 3 _ _ _ _ scZa1.nd Z (Or.inl Z) (@Zn _ _ _ _ _ _ _ _ (ZE2 K) (pv 3)<|@Zz46 _ _ _ _ _ _ _ _ _ _ (@Zp1 _ _ _ _ _ _ _ (@Zn _ _ _ _ _ _ _ _ ZU Zr<|Zj ZI XS T.n_str Boot.«str»<|Zz0 (pv 1) Zz3) Zz7 Z Z) (@Zp1 _ _ _ _ _ _ _ Zr Zz7 Z Z) (@Zp1 _ _ _ _ _ _ _ Zr Zz7 Z Z) (@Zp1 _ _ _ _ _ _ _ Zr Zz7 Z Z) Z Z Z Z) Z<|.inl Z)
   (@Zz2 _ _ _ _ _ (@Zg _ _ 3 _ _ _ _ scZa1.nd Z (Or.inl Z) (@Zn _ _ _ _ _ _ _ _ (ZE2 K) (pv 3)<|@Zz46 _ _ _ _ _ _ _ _ _ _ (@Zp1 _ _ _ _ _ _ _ (@Zn _ _ _ _ _ _ _ _ ZU Zr<|Zj ZI XS T.n_str Boot.«str»<|Zz0 (pv 1) Zz3) Zz7 Z Z) (@Zp1 _ _ _ _ _ _ _ Zr Zz7 Z Z) (@Zp1 _ _ _ _ _ _ _ Zr Zz7 Z Z) (@Zp1 _ _ _ _ _ _ _ Zr Zz7 Z Z) Z Z Z Z) Z<|.inl Z)
   (@Zz5 _ _ _<|@Zk _ _ _ _<|pv 3)))),?_⟩
  have z1:100000<=sizeLine:=J;have two:2<=sizeLine:=XT
  have ln:∀z:Int,-(10^60)<z->z<10^60->(Str.ofString<|toString z).length<=61:=λz h1 h2=>Zs3 (k:=60) J h1 h2;have bm:-(10^60)<many/\many<10^60:=XT
  have bc:-(10^60)<count/\count<10^60:=XT;have bs:-(10^60)<many+far/\many+far<10^60:=XT
  have lo:∀z:Int,-(10^60)<z->-(10^70)<z:=λz h=>Y2R J h;have hi:∀z:Int,z<10^60->z<10^70:=λz h=>Y2R h J
  refine⟨two,λt00 ht00=>?_⟩;have u1:=Zz4 (o:=.tup [.str (Str.ofString "tree -1"),.int 0]) ht00
  have kt00:=Zz1 (H:=H) (a:=t00) (o:=.tup [.str (Str.ofString "tree -1"),.int 0]);generalize upd H t00 (.tup [.str (Str.ofString "tree -1"),.int 0])=H1 at *;refine⟨_,Z,many,Z,lo _ bm.1,hi _ bm.2,_,_,Z,Z,Yv (Y2q (show(Str.ofString "tree ").length<=10 by decide +kernel)<|ln _ bm.1 bm.2) XT,two,λt01 ht01=>?_⟩;have u2:=Zz4 (o:=.tup [.str (Str.ofString "tree "++Str.ofString (toString many)),.int 0]) ht01
  have kt01:=Zz1 (H:=H1) (a:=t01) (o:=.tup [.str (Str.ofString "tree "++Str.ofString (toString many)),.int 0]);generalize upd H1 t01 (.tup [.str (Str.ofString "tree "++Str.ofString (toString many)),.int 0])=H2 at *;refine⟨two,λt02 ht02=>?_⟩;have u3:=Zz4 (o:=.tup [.str (Str.ofString "row -1"),.int 0]) ht02
  have kt02:=Zz1 (H:=H2) (a:=t02) (o:=.tup [.str (Str.ofString "row -1"),.int 0]);generalize upd H2 t02 (.tup [.str (Str.ofString "row -1"),.int 0])=H3 at *;refine⟨_,Z,_,Z,_,_,Z,Z,many+far,Z,lo _ bs.1,hi _ bs.2,_,_,Z,Z,Yv (Y2q (show(Str.ofString "row ").length<=10 by decide +kernel)<|ln _ bs.1 bs.2) XT,two,λt03 ht03=>?_⟩;have u4:=Zz4 (o:=.tup [.str (Str.ofString "row "++Str.ofString (toString<|many+far)),.int 0]) ht03
  have kt03:=Zz1 (H:=H3) (a:=t03) (o:=.tup [.str (Str.ofString "row "++Str.ofString (toString<|many+far)),.int 0]);generalize upd H3 t03 (.tup [.str (Str.ofString "row "++Str.ofString (toString<|many+far)),.int 0])=H4 at *;refine⟨(by show 4<=sizeLine;omega),λd0 hd0=>?_⟩;have u5:=Zz4 (o:=.lst [.ref t00,.ref t01,.ref t02,.ref t03]) hd0
  have kd0:=Zz1 (H:=H4) (a:=d0) (o:=.lst [.ref t00,.ref t01,.ref t02,.ref t03]);generalize upd H4 d0 (.lst [.ref t00,.ref t01,.ref t02,.ref t03])=H5 at *;refine nm ?_;dsimp only[List.set];refine⟨_,Z,_,Z,count,Z,lo _ bc.1,hi _ bc.2,_,_,Z,Z,Yv (Y2q (show(Str.ofString "number ").length<=10 by decide +kernel)<|ln _ bc.1 bc.2) XT,two,λt10 ht10=>?_⟩;have u6:=Zz4 (o:=.tup [.str (Str.ofString "number "++Str.ofString (toString count)),.int 1]) ht10
  have kt10:=Zz1 (H:=H5) (a:=t10) (o:=.tup [.str (Str.ofString "number "++Str.ofString (toString count)),.int 1]);generalize upd H5 t10 (.tup [.str (Str.ofString "number "++Str.ofString (toString count)),.int 1])=H6 at *;refine⟨two,λt11 ht11=>?_⟩;have u7:=Zz4 (o:=.tup [.str (Str.ofString "place -1"),.int 1]) ht11
  have kt11:=Zz1 (H:=H6) (a:=t11) (o:=.tup [.str (Str.ofString "place -1"),.int 1]);generalize upd H6 t11 (.tup [.str (Str.ofString "place -1"),.int 1])=H7 at *;refine⟨two,λt12 ht12=>?_⟩;have u8:=Zz4 (o:=.tup [.str (Str.ofString "next 0 0"),.int 1]) ht12
  have kt12:=Zz1 (H:=H7) (a:=t12) (o:=.tup [.str (Str.ofString "next 0 0"),.int 1]);generalize upd H7 t12 (.tup [.str (Str.ofString "next 0 0"),.int 1])=H8 at *;refine⟨two,λt13 ht13=>?_⟩;have u9:=Zz4 (o:=.tup [.str (Str.ofString "number 1 0"),.int 1]) ht13
  have kt13:=Zz1 (H:=H8) (a:=t13) (o:=.tup [.str (Str.ofString "number 1 0"),.int 1]);generalize upd H8 t13 (.tup [.str (Str.ofString "number 1 0"),.int 1])=H9 at *;refine⟨(by show 4<=sizeLine;omega),λd1 hd1=>?_⟩;have u10:=Zz4 (o:=.lst [.ref t10,.ref t11,.ref t12,.ref t13]) hd1
  have kd1:=Zz1 (H:=H9) (a:=d1) (o:=.lst [.ref t10,.ref t11,.ref t12,.ref t13]);generalize upd H9 d1 (.lst [.ref t10,.ref t11,.ref t12,.ref t13])=H10 at *;have w1:=u6.trans (u7.trans<|u8.trans<|u9.trans<|u10)
  refine⟨d0,d1,_,_,Z,Z,SqL.of<|w1 _ _ kd0,SqL.of kd1,(by show 8<=sizeLine;omega),λp1 hp1=>?_⟩;have u11:=Zz4 (o:=.lst<|[.ref t00,.ref t01,.ref t02,.ref t03]++[.ref t10,.ref t11,.ref t12,.ref t13]) hp1
  have kp1:=Zz1 (H:=H10) (a:=p1) (o:=.lst<|[.ref t00,.ref t01,.ref t02,.ref t03]++[.ref t10,.ref t11,.ref t12,.ref t13]);generalize upd H10 p1 (.lst<|[.ref t00,.ref t01,.ref t02,.ref t03]++[.ref t10,.ref t11,.ref t12,.ref t13])=H11 at *;refine nm ?_;dsimp only[List.set];refine⟨_,Z,_,Z,count,Z,lo _ bc.1,hi _ bc.2,_,_,Z,Z,Yv (Y2q (show(Str.ofString "share ").length<=10 by decide +kernel)<|ln _ bc.1 bc.2) XT,two,λt20 ht20=>?_⟩;have u12:=Zz4 (o:=.tup [.str (Str.ofString "share "++Str.ofString (toString count)),.int 2]) ht20
  have kt20:=Zz1 (H:=H11) (a:=t20) (o:=.tup [.str (Str.ofString "share "++Str.ofString (toString count)),.int 2]);generalize upd H11 t20 (.tup [.str (Str.ofString "share "++Str.ofString (toString count)),.int 2])=H12 at *;refine⟨two,λt21 ht21=>?_⟩;have u13:=Zz4 (o:=.tup [.str (Str.ofString "share 0 0"),.int 2]) ht21
  have kt21:=Zz1 (H:=H12) (a:=t21) (o:=.tup [.str (Str.ofString "share 0 0"),.int 2]);generalize upd H12 t21 (.tup [.str (Str.ofString "share 0 0"),.int 2])=H13 at *;refine⟨two,λt22 ht22=>?_⟩;have u14:=Zz4 (o:=.tup [.str (Str.ofString "share -1"),.int 2]) ht22
  have kt22:=Zz1 (H:=H13) (a:=t22) (o:=.tup [.str (Str.ofString "share -1"),.int 2]);generalize upd H13 t22 (.tup [.str (Str.ofString "share -1"),.int 2])=H14 at *;refine⟨two,λt23 ht23=>?_⟩;have u15:=Zz4 (o:=.tup [.str (Str.ofString "share 1 0"),.int 2]) ht23
  have kt23:=Zz1 (H:=H14) (a:=t23) (o:=.tup [.str (Str.ofString "share 1 0"),.int 2]);generalize upd H14 t23 (.tup [.str (Str.ofString "share 1 0"),.int 2])=H15 at *;refine⟨(by show 4<=sizeLine;omega),λd2 hd2=>?_⟩;have u16:=Zz4 (o:=.lst [.ref t20,.ref t21,.ref t22,.ref t23]) hd2
  have kd2:=Zz1 (H:=H15) (a:=d2) (o:=.lst [.ref t20,.ref t21,.ref t22,.ref t23]);generalize upd H15 d2 (.lst [.ref t20,.ref t21,.ref t22,.ref t23])=H16 at *;have w2:=u12.trans (u13.trans<|u14.trans<|u15.trans<|u16)
  refine⟨p1,d2,_,_,Z,Z,SqL.of<|w2 _ _ kp1,SqL.of kd2,(by show 12<=sizeLine;omega),λp2 hp2=>?_⟩;have u17:=Zz4 (o:=.lst<|([.ref t00,.ref t01,.ref t02,.ref t03]++[.ref t10,.ref t11,.ref t12,.ref t13])++[.ref t20,.ref t21,.ref t22,.ref t23]) hp2
  have kp2:=Zz1 (H:=H16) (a:=p2) (o:=.lst<|([.ref t00,.ref t01,.ref t02,.ref t03]++[.ref t10,.ref t11,.ref t12,.ref t13])++[.ref t20,.ref t21,.ref t22,.ref t23]);generalize upd H16 p2 (.lst<|([.ref t00,.ref t01,.ref t02,.ref t03]++[.ref t10,.ref t11,.ref t12,.ref t13])++[.ref t20,.ref t21,.ref t22,.ref t23])=H17 at *;refine nm ?_;dsimp only[List.set];have v17:=Same.refl H17
  have v16:=u17.trans v17;have v15:=u16.trans v16
  have v14:=u15.trans v15;have v13:=u14.trans v14
  have v12:=u13.trans v13;have v11:=u12.trans v12
  have v10:=u11.trans v11;have v9:=u10.trans v10
  have v8:=u9.trans v9;have v7:=u8.trans v8
  have v6:=u7.trans v7;have v5:=u6.trans v6
  have v4:=u5.trans v5;have v3:=u4.trans v4
  have v2:=u3.trans v3;have v1:=u2.trans v2
  have v0:=u1.trans v1;have b0:Bears (DueV H17) [.ref t00,.ref t01,.ref t02,.ref t03] ((dueZ many count far).drop 0 |>.take 4):=Zx10
   (⟨t00,Z,by rw[<-show _=askT _ from(by decide +kernel:Str.ofString "tree -1"=askT _)];exact v1 _ _ kt00⟩)
   (⟨t01,Z,by rw[<-show _=askT _ from Zz15 (nm:=Str.ofString "tree") (z:=many) (b:=Str.ofString "tree ") Z];exact v2 _ _ kt01⟩)
   (⟨t02,Z,by rw[<-show _=askT _ from(by decide +kernel:Str.ofString "row -1"=askT _)];exact v3 _ _ kt02⟩)
   (⟨t03,Z,by rw[<-show _=askT _ from Zz15 (nm:=Str.ofString "row") (z:=many+far) (b:=Str.ofString "row ") Z];exact v4 _ _ kt03⟩)
  have b1:Bears (DueV H17) [.ref t10,.ref t11,.ref t12,.ref t13] ((dueZ many count far).drop 4 |>.take 4):=Zx10
   (⟨t10,Z,by rw[<-show _=askT _ from Zz15 (nm:=Str.ofString "number") (z:=count) (b:=Str.ofString "number ") Z];exact v6 _ _ kt10⟩)
   (⟨t11,Z,by rw[<-show _=askT _ from(by decide +kernel:Str.ofString "place -1"=askT _)];exact v7 _ _ kt11⟩)
   (⟨t12,Z,by rw[<-show _=askT _ from(by decide +kernel:Str.ofString "next 0 0"=askT _)];exact v8 _ _ kt12⟩)
   (⟨t13,Z,by rw[<-show _=askT _ from(by decide +kernel:Str.ofString "number 1 0"=askT _)];exact v9 _ _ kt13⟩)
  have b2:Bears (DueV H17) [.ref t20,.ref t21,.ref t22,.ref t23] ((dueZ many count far).drop 8 |>.take 4):=Zx10
   (⟨t20,Z,by rw[<-show _=askT _ from Zz15 (nm:=Str.ofString "share") (z:=count) (b:=Str.ofString "share ") Z];exact v12 _ _ kt20⟩)
   (⟨t21,Z,by rw[<-show _=askT _ from(by decide +kernel:Str.ofString "share 0 0"=askT _)];exact v13 _ _ kt21⟩)
   (⟨t22,Z,by rw[<-show _=askT _ from(by decide +kernel:Str.ofString "share -1"=askT _)];exact v14 _ _ kt22⟩)
   (⟨t23,Z,by rw[<-show _=askT _ from(by decide +kernel:Str.ofString "share 1 0"=askT _)];exact v15 _ _ kt23⟩)
  exact⟨_,Z,q p2 _ H17 v0 kp2<|(b0.app b1).app b2⟩
noncomputable def AskK(n:Int)(ps:List (Int×Int))(line:Str)(k:Nat):Prop:=
 (k=4/\badL (Txt.split line Zs)=true)\/(badL (Txt.split line Zs)=false/\
 ((k=0/\∃z nm,Txt.split line Zs=[nm,nT z]/\(nm="tree"\/nm="row")/\-(10^60)<z/\z<10^60/\(∀c:Nat,TC n ps c->0<=z->(c:Int)<=z))\/
 (k=1/\∃zs nm,Txt.split line Zs=nm::zs.map nT/\Told zs/\(nm="number"\/nm="place"\/nm="next")/\¬Zo n ps zs)\/
 (k=2/\∃zs,Txt.split line Zs=("share":Str)::zs.map nT/\Told zs/\¬IsSet ps.length zs)\/
 (k=3/\(∀U,¬Zo n ps U)/\(Txt.split line Zs=[("cheapest":Str)]\/Txt.split line Zs=[("share":Str),("-":Str)]))))
noncomputable def clsK(k:Nat)(BT NS NT BS PX:Addr):Addr:=match k with
 |0=>NS
 |1=>NT
 |2=>BS
 |3=>PX
 |_=>BT
theorem AskK.r{H:Hp}{E:XK}(h:AskK n ps line k)(q:∀H',Same H H'->E (.ref (clsK k BT NS NT BS PX)) none H'):AskR H E n ps line BT NS NT BS PX:=by
 rcases h with ⟨rfl,hb⟩|⟨hb,h⟩
 ·exact⟨λ_=>q,λh=>(by rw[hb]at h;cases h)⟩
 ·refine⟨λh=>(by rw[hb]at h;cases h),λ_=>?_⟩;rcases h with ⟨rfl,z,nm,h1,h2,h3,h4,h5⟩|⟨rfl,zs,nm,h1,h2,h3,h4⟩|⟨rfl,zs,h1,h2,h3⟩|⟨rfl,h1,h2⟩
  ·exact .inl ⟨z,nm,h1,h2,h3,h4,h5,q⟩
  ·exact .inr (.inl ⟨zs,nm,h1,h2,h3,h4,q⟩)
  ·exact .inr (.inr<|.inl ⟨zs,h1,h2,h3,q⟩)
  ·exact .inr (.inr<|.inr ⟨h1,h2,q⟩)
theorem AskK.le(h:AskK n ps line k):k<=4:=by rcases h with ⟨rfl,_⟩|⟨_,⟨rfl,_⟩|⟨rfl,_⟩|⟨rfl,_⟩|⟨rfl,_⟩⟩<;>decide
noncomputable def kdL(k:Nat):List Bool:=[decide (k=0),decide<|k=1,decide<|k=2,decide<|k=3,decide<|k=4,true]
noncomputable def Zz014(K:PySem.W.Frag)(CD C:Addr):Sp:=λvs H Q _=>∃(x d:Addr)(zs:List V)(z:V)(T:Tr)(line:Str)(k:Nat),vs=[.ref x,.str line]/\DeskAt CD H x d (zs++[z])/\StageV C H z T/\OkT T/\zs.length<=1000/\(line.cps.all λc=>decide<|c<128)=true/\line.length<=90000/\AskK T.1 T.2.1 line k/\
 ∀r H',Same H H'->H' r=some (.lst<|(kdL k).map V.bl)->Q (.ref r) H'
theorem scZb1:FnScope ["desk","line","kinds","e"] ["desk","line"] (Zz9 (top 119)):=Zf1 S
theorem Zj13(T:Txt K mg t):OkQ P w base CX0 T.q_law_kinds 14 (Zz014 K t.A_Desk t.A_Web):=by
 refine T.q_law_kinds.ok ["desk","line","kinds","e"] S (λvs H Q E h=>?_) (λcdv A outer s H vs Q E hr h=>?_)
 ·obtain⟨x,d,zs,z,T',line,k,rfl,_⟩:=h;rfl
 ·obtain⟨x,d,zs,z,T',line,k,rfl,hD,hS,hO,hz,ha,hll,hk,q⟩:=h;refine⟨_,(Zz2 (Zg (i:=2) scZb1.nd Z (Or.inl Z)<|ZT Zz3)
   (Zz2 (Zz713 (i:=3) Z Z Z scZb1.nd Z Z T.c_WebError Z (λR _=>(Zz5<|ZQ<|Zu9 (pv 0) T.cl_Desk T.me_Desk_asked (okZZ T) (hr.mono J) T.bZZ .nil pxT<|Zz0 (pv 1) Zz3)) (λe C oe _ hoe=>(Zz2 (Zg (i:=2) scZb1.nd Z (Or.inl Z)<|ZT<|Zz0 (Zc (ZC1 K (Yd _<|Yy2.mpr Z) hoe) XS T.n_isinstance Boot.«isinstance»<|Zz0 (pv 3)<|Zz0 (Zq1 (v:=V.ref t.A_NoSuch) Z T.c_NoSuch Z) Zz3)<|Zz0 (Zc (ZC1 K (Yd _<|Yy2.mpr Z) hoe) XS T.n_isinstance Boot.«isinstance»<|Zz0 (pv 3)<|Zz0 (Zq1 (v:=V.ref t.A_NoTree) Z T.c_NoTree Z) Zz3)<|Zz0 (Zc (ZC1 K (Yd _<|Yy2.mpr Z) hoe) XS T.n_isinstance Boot.«isinstance»<|Zz0 (pv 3)<|Zz0 (Zq1 (v:=V.ref t.A_BadSet) Z T.c_BadSet Z) Zz3)<|Zz0 (Zc (ZC1 K (Yd _<|Yy2.mpr Z) hoe) XS T.n_isinstance Boot.«isinstance»<|Zz0 (pv 3)<|Zz0 (Zq1 (v:=V.ref t.A_Parted) Z T.c_Parted Z) Zz3) Zz3)
   (Zz5<|Zg (i:=2) scZb1.nd Z (Or.inl Z)<|Zn (ZE2 K) (pv 2)<|ZT<|Zz0 (Zc (ZC1 K (Yd _<|Yy2.mpr Z) hoe) XS T.n_isinstance Boot.«isinstance»<|Zz0 (pv 3)<|Zz0 (Zq1 (v:=V.ref t.A_BadText) Z T.c_BadText Z) Zz3)<|Zz0 (Zc (ZC1 K (Yd _<|Yy2.mpr Z) hoe) XS T.n_isinstance Boot.«isinstance»<|Zz0 (pv 3)<|Zz0 (Zl11 (v:=V.ty "ValueError") Z T.n_ValueError Boot.«ValueError» Z) Zz3) Zz3))))
   (Zz5<|Zk<|pv 2))),?_⟩
  refine⟨Yr _,λkl hkl=>?_⟩;have s0:=Zz4 (o:=.lst []) hkl
  refine nm ?_;dsimp only[List.set];generalize upd H kl (.lst [])=H0 at *;obtain⟨dx,hx,hd⟩:=id hD;refine ZC13 (λσ H1=>∃(ka:Addr)(v3:Option V),σ=[some (.ref x),some<|.str line,some<|.ref ka,v3]/\Same H H1/\H1 ka=some (.lst<|(kdL k).map V.bl)) ?_ ?_;rotate_left
  ·intro Kn hK;refine tryX (λσ' C H1=>σ'=[some (.ref x),some<|.str line,some<|.ref kl,none]/\Same H0 H1/\PySem.W.exmOne K (.ref C) (.ref t.A_WebError)=some true/\XCls K C/\PySem.W.kitOne K (.ref C) (.type "ValueError")=some true/\PySem.W.kitOne K (.ref C) (.ref t.A_NoSuch)=some (decide<|k=0)/\PySem.W.kitOne K (.ref C) (.ref t.A_NoTree)=some (decide<|k=1)/\PySem.W.kitOne K (.ref C) (.ref t.A_BadSet)=some (decide<|k=2)/\PySem.W.kitOne K (.ref C) (.ref t.A_Parted)=some (decide<|k=3)/\PySem.W.kitOne K (.ref C) (.ref t.A_BadText)=some (decide<|k=4)) ?_ ?_
   ·rintro σ' C H1 ⟨rfl,s1,em,hX,kv,k0,k1,k2,k3,k4⟩;refine⟨em,λe he=>?_⟩;refine⟨_,Z,_,_,_,Z,λz h=>h,hX,k0,_,Z,_,_,_,Z,λz h=>h,hX,k1,_,Z,_,_,_,Z,λz h=>h,hX,k2,_,Z,_,_,_,Z,λz h=>h,hX,k3,(by show 4<=sizeLine;decide),λkk hkk=>?_⟩;have u2:=Zz4 (o:=.lst [.bl (decide<|k=0),.bl<|decide<|k=1,.bl<|decide<|k=2,.bl (decide<|k=3)]) hkk
    have c2:=Zz1 (H:=H1) (a:=kk) (o:=.lst [.bl (decide<|k=0),.bl<|decide<|k=1,.bl<|decide<|k=2,.bl (decide<|k=3)]);refine⟨_,Z,_,Z,_,_,_,Z,λz h=>h,hX,k4,_,Z,_,_,_,Z,λz h=>h,hX,kv,(by show 2<=sizeLine;decide),λk5 hk5=>?_⟩;have u3:=Zz4 (o:=.lst [.bl (decide<|k=4),.bl true]) hk5
    refine⟨kk,k5,_,_,Z,Z,SqL.of<|u3 _ _ c2,SqL.of Zz1,(by show 6<=_;decide),λp hp=>?_⟩;have u4:=u2.trans (u3.trans<|Zz4 (o:=.lst<|(kdL k).map V.bl) hp)
    exact hK _ _ ⟨p,none,Z,s0.trans<|s1.trans u4,Zz1⟩
   ·intro R hR;refine⟨_,Z,x,dx,_,Z,s0 _ _ hx,XS,_,Z,x,d,zs,z,T',line,Z,hD.same s0,hS.same s0,hO,hz,ha,hll,hk.r λH1 s1=>?_⟩
    have:=hk.le
    rcases(by omega:k=0\/k=1\/k=2\/k=3\/k=4) with rfl|rfl|rfl|rfl|rfl
    ·exact hR _ _ _ ⟨Z,s1,T.em_NoSuch,T.x_NoSuch,T.ki_NoSuch_ValueError,Zn2,T.ki_NoSuch_NoTree,T.ki_NoSuch_BadSet,T.ki_NoSuch_Parted,T.ki_NoSuch_BadText⟩
    ·exact hR _ _ _ ⟨Z,s1,T.em_NoTree,T.x_NoTree,T.ki_NoTree_ValueError,T.ki_NoTree_NoSuch,Zn2,T.ki_NoTree_BadSet,T.ki_NoTree_Parted,T.ki_NoTree_BadText⟩
    ·exact hR _ _ _ ⟨Z,s1,T.em_BadSet,T.x_BadSet,T.ki_BadSet_ValueError,T.ki_BadSet_NoSuch,T.ki_BadSet_NoTree,Zn2,T.ki_BadSet_Parted,T.ki_BadSet_BadText⟩
    ·exact hR _ _ _ ⟨Z,s1,T.em_Parted,T.x_Parted,T.ki_Parted_ValueError,T.ki_Parted_NoSuch,T.ki_Parted_NoTree,T.ki_Parted_BadSet,Zn2,T.ki_Parted_BadText⟩
    ·exact hR _ _ _ ⟨Z,s1,T.em_BadText,T.x_BadText,T.ki_BadText_ValueError,T.ki_BadText_NoSuch,T.ki_BadText_NoTree,T.ki_BadText_BadSet,T.ki_BadText_Parted,Zn2⟩
  rintro σ H1 ⟨ka,v3,rfl,s1,hk1⟩;exact⟨_,Z,q ka H1 s1 hk1⟩
theorem Zz36{X:Cx}{a b c d f g:Expr}{ta tb tc td tf tg:TE}{pos:Pos}(ha:PE X a ta)(hb:PE X b tb)(hc:PE X c tc)(hd:PE X d td)(hf:PE X f tf)(hg:PE X g tg)(s0:starEach [a,b,c,d,f,g] X.env=(false,eval a X.env)::starEach [b,c,d,f,g] X.env:=by rfl)(s1:starEach [b,c,d,f,g] X.env=(false,eval b X.env)::starEach [c,d,f,g] X.env:=by rfl)(s2:starEach [c,d,f,g] X.env=(false,eval c X.env)::starEach [d,f,g] X.env:=by rfl)(s3:starEach [d,f,g] X.env=(false,eval d X.env)::starEach [f,g] X.env:=by rfl)(s4:starEach [f,g] X.env=(false,eval f X.env)::starEach [g] X.env:=by rfl)(s5:starEach [g] X.env=[(false,eval g X.env)]:=by rfl):PE X (.List [a,b,c,d,f,g] pos) (tLst<|ZL3 ta<|ZL3 tb<|ZL3 tc<|ZL3 td<|ZL3 tf<|ZL3 tg tNil):=ZT (Zz0 ha (Zz0 hb (Zz0 hc (Zz0 hd (Zz0 hf (Zz0 hg Zz3 s5) s4) s3) s2) s1) s0)
noncomputable def spZc1(K:PySem.W.Frag):Sp:=λvs H Q _=>∃(a:Addr)(ns:List Int),vs=[.ref a]/\SqL K H a (IL ns)/\ns.length<=63/\∀H',Q (.bl true) H'
theorem Zv12{nm:Str}{zs:List Int}{j:Int}(hn:32∉nm.cps.toList)(ha:(nm.cps.all λc=>decide (c<128))=true)(hl:nm.length<=100)(hz:Told zs)(hzl:zs.length<=10):((askT (nm,zs,j)).cps.all λc=>decide (c<128))=true/\(askT (nm,zs,j)).length<=90000/\Txt.split (askT (nm,zs,j)) Zs=nm::zs.map nT:=by
 refine⟨ascii_iff.mpr λd hd=>?_,?_,Zu5 hn⟩
 ·have hd:d∈(Str.join Zs<|nm::zs.map nT).cps.toList:=hd;rw[Ze1,Zo2]at hd;rcases ZX9 hd with rfl|⟨a,h1,h2⟩
  ·decide
  ·obtain⟨x,hx,rfl⟩:=Yt.mp h1;rcases Ye.mp hx with rfl|hx
   ·exact ascii_iff.mp ha d h2
   ·obtain⟨z,_,rfl⟩:=Yt.mp hx;exact ascii_iff.mp (Zf6 z) d h2
 ·show(Str.join Zs<|nm::zs.map nT).length<=_;rw[Ze1];refine Yv (ZY2 (XU:=100) λa ha=>?_) (by rw[Yq,Yy9];lia);rcases Ye.mp ha with e|e
  ·rwa[e]
  ·have:=Zc2 hz a e;lia
theorem Zz912(hc:TC n ps c)(c1:(c:Int)<=10^20)(p9:ps.length<=30)(f0:0<=far)(f1:far<10^50){p:Str×List Int×Int}(h:p∈dueZ (c:Int) (ps.length:Int) far):
  ((askT p).cps.all λc=>decide<|c<128)=true/\(askT p).length<=90000/\AskK n ps (askT p) p.2.2.toNat/\0<=p.2.2/\p.2.2<=2:=by
 have one:∀z:Int,-(10^60)<z->z<10^60->Told [z]:=λz h1 h2 y hy=>by rw[Yy2.mp hy];exact⟨h1,h2⟩
 have num:∀(nm:Str)(z j:Int),(nm="tree"\/nm="row")->-(10^60)<z->z<10^60->(0<=z->(c:Int)<=z)->((askT (nm,[z],j)).cps.all λc=>decide<|c<128)=true/\(askT (nm,[z],j)).length<=90000/\AskK n ps (askT (nm,[z],j)) 0:=λnm z j hn h1 h2 h3=>by
  obtain⟨o1,o2,o3⟩:=Zv12 (nm:=nm) (zs:=[z]) (j:=j) (by rcases hn with rfl|rfl<;>decide +kernel) (by rcases hn with rfl|rfl<;>decide +kernel) (by rcases hn with rfl|rfl<;>decide +kernel) (one z h1 h2) (show 1<=10 by decide)
  refine⟨o1,o2,.inr ⟨by rw[o3];exact good_iff.mpr (.inr<|.inl ⟨by rcases hn with rfl|rfl<;>decide +kernel,rfl,nums_iff.mpr ⟨[z],rfl,one z h1 h2⟩⟩),.inl ⟨rfl,z,nm,o3,hn,h1,h2,λd hd z0=>?_⟩⟩⟩
  rw[hd.uniq hc];exact h3 z0
 have tie:∀(nm:Str)(zs:List Int)(j:Int),nm∈ZO1->Told zs->0<zs.length->zs.length<=10->((askT (nm,zs,j)).cps.all λc=>decide<|c<128)=true/\(askT (nm,zs,j)).length<=90000/\Txt.split (askT (nm,zs,j)) Zs=nm::zs.map nT/\badL (Txt.split (askT (nm,zs,j)) Zs)=false:=λnm zs j hn hz h0 h10=>by obtain⟨o1,o2,o3⟩:=Zv12 (nm:=nm) (zs:=zs) (j:=j) ((by decide +kernel:∀x∈ZO1,32∉x.cps.toList) nm hn) ((by decide +kernel:∀x∈ZO1,(x.cps.all λc=>decide<|c<128)=true) nm hn) ((by decide +kernel:∀x∈ZO1,x.length<=100) nm hn) hz h10;refine⟨o1,o2,o3,?_⟩;rw[o3];exact good_iff.mpr (.inr<|.inr ⟨hn,by rw[Yy9];omega,.inr<|nums_iff.mpr ⟨zs,Z,hz⟩⟩)
 have tree:∀(nm:Str)(zs:List Int)(j:Int),(nm="number"\/nm="place"\/nm="next")->Told zs->0<zs.length->zs.length<=10->¬IsSet ps.length zs->((askT (nm,zs,j)).cps.all λc=>decide<|c<128)=true/\(askT (nm,zs,j)).length<=90000/\AskK n ps (askT (nm,zs,j)) 1:=λnm zs j hn hz h0 h10 hs=>by
  obtain⟨o1,o2,o3,o4⟩:=tie nm zs j (by rcases hn with rfl|rfl|rfl<;>decide +kernel) hz h0 h10
  exact⟨o1,o2,.inr ⟨o4,.inr<|.inl ⟨Z,zs,nm,o3,hz,hn,λh=>hs h.1⟩⟩⟩
 have shr:∀(zs:List Int)(j:Int),Told zs->0<zs.length->zs.length<=10->¬IsSet ps.length zs->((askT ("share",zs,j)).cps.all λc=>decide<|c<128)=true/\(askT ("share",zs,j)).length<=90000/\AskK n ps (askT ("share",zs,j)) 2:=λzs j hz h0 h10 hs=>by obtain⟨o1,o2,o3,o4⟩:=tie "share" zs j S hz h0 h10;exact⟨o1,o2,.inr ⟨o4,.inr<|.inr<|.inl ⟨Z,zs,o3,hz,hs⟩⟩⟩
 have tB:∀l:List Int,(∀z∈l,-1<=z/\z<=30)->Told l:=λl hl z hz=>by have:=hl z hz;omega
 have n1:¬IsSet ps.length [(ps.length:Int)]:=λh=>by have:=(h 0 _ Z).2.1;omega
 have n2:¬IsSet ps.length [-1]:=λh=>by have:=(h 0 _ Z).1;omega
 have n3:¬IsSet ps.length [0,0]:=λh=>by have:=(h 1 0 Z).2.2 0 J rfl;omega
 have n4:¬IsSet ps.length [1,0]:=λh=>by have:=(h 1 0 Z).2.2 1 J rfl;omega
 have b1:Told [(ps.length:Int)]:=tB _ λz hz=>by rw[Yy2.mp hz];omega
 have b2:Told [-1]:=tB _ J;have b3:Told [0,0]:=tB _ J
 have b4:Told [1,0]:=tB _ J;have fin:∀(q:Str×List Int×Int)(j:Nat),q.2.2=(j:Int)->j<=2->((askT q).cps.all λc=>decide<|c<128)=true/\(askT q).length<=90000/\AskK n ps (askT q) j->((askT q).cps.all λc=>decide<|c<128)=true/\(askT q).length<=90000/\AskK n ps (askT q) q.2.2.toNat/\0<=q.2.2/\q.2.2<=2:=λq j e hj h=>by rw[e];exact⟨h.1,h.2.1,h.2.2,XT,XT⟩
 unfold dueZ at h;simp only[Ye,Y2N,or_false]at h;rcases h with rfl|rfl|rfl|rfl|rfl|rfl|rfl|rfl|rfl|rfl|rfl|rfl
 ·exact fin _ 0 Z J (num _ _ _ (.inl Z) J J λh=>absurd h J)
 ·exact fin _ 0 Z J (num _ _ _ (.inl Z) XT XT λ_=>Y0B _)
 ·exact fin _ 0 Z J (num _ _ _ (.inr Z) J J λh=>absurd h J)
 ·exact fin _ 0 Z J (num _ _ _ (.inr Z) XT XT λ_=>XT)
 ·exact fin _ 1 Z J (tree _ _ _ (.inl Z) b1 (show 0<1 by decide) (show 1<=10 by decide) n1)
 ·exact fin _ 1 Z J (tree _ _ _ (.inr<|.inl Z) b2 J J n2)
 ·exact fin _ 1 Z J (tree _ _ _ (.inr<|.inr Z) b3 J J n3)
 ·exact fin _ 1 Z J (tree _ _ _ (.inl Z) b4 J J n4)
 ·exact fin _ 2 Z J (shr _ _ b1 (show 0<1 by decide) (show 1<=10 by decide) n1)
 ·exact fin _ 2 Z J (shr _ _ b3 J J n3)
 ·exact fin _ 2 Z J (shr _ _ b2 J J n2)
 ·exact fin _ 2 Z J (shr _ _ b4 J J n4)
theorem scZc1:FnScope ["script","places","ties","text","desk","many","k","m","some","line","due","pairs","which","parted"] ["script"] (Zz9 sZc1):=Zf1 S
theorem okZc1(T:Txt K mg t):OkQ P w base CX0 T.q_law 16 (spZc1 K):=by
 refine T.q_law.ok ["script","places","ties","text","desk","many","k","m","some","line","due","pairs","which","parted"] S (λvs H Q E h=>?_) (λcdv A outer s H vs Q E hr h=>?_)
 ·obtain⟨a,ns,rfl,_⟩:=h;rfl
 ·obtain⟨a,ns,rfl,hS,hn63,k⟩:=h;refine⟨_,(Zz2 (ZP3 (Zz6 (Zt14 T) hr T.q_law_web ZB<|Zz0 (pv 0)<|Zz0 Zz7<|Zz0 Zz7 Zz3)<|Zv1 (n:=2) K Z<|Zv (Zf (i:=1) scZc1.nd Z<|Or.inl Z)<|Zv (Zf (i:=2) scZc1.nd Z<|Or.inl Z) Zu1)
   (Zz2 (Zg (i:=3) scZc1.nd Z (Or.inl Z)<|Zz6 (Zp14 T) hr T.q_law_text ZB<|Zz0 (pv 1)<|Zz0 (pv 2)<|Zz0 (Zz6 (Zq14 T) hr T.q_law_lengths ZB<|Zz0 (pv 0)<|Zz0 (Zc (Zh K) XS T.n_len Boot.«len»<|Zz0 (pv 2) Zz3) Zz3) Zz3)
   (Zz2 (Zg (i:=4) scZc1.nd Z (Or.inl Z)<|Zz26 T.k_Desk (okZV T) (hr.mono J) Z T.c_Desk T.bZV .nil ZB<|Zz0 (pv 3) Zz3)
   (Zz2 (Zg (i:=5) scZc1.nd Z (Or.inl Z)<|Zc (Zh K) XS T.n_len Boot.«len»<|Zz0 (Zz6 (Zr14 T) hr T.q_law_all ZB<|Zz0 (pv 1)<|Zz0 (pv 2) Zz3) Zz3)
   (Zz2 (ZX YM Z (ZR Z T.n_range<|Zz0 (Zc (Zb2 Z) XS T.n_max Boot.«max»<|Zz0 Zz7<|Zz0 (Zc (Za2 Z) XS T.n_min Boot.«min»<|Zz0 (Zc (Zh K) XS T.n_len Boot.«len»<|Zz0 (pv 0) Zz3)<|Zz0 Zz7 Zz3) Zz3) Zz3) (Zf (i:=6) scZc1.nd Z<|Or.inl Z)
   (Zz2 (Zg (i:=7) scZc1.nd Z (Or.inl Z)<|Zz6 (Zk13 T) hr T.q_law_mixed ZB<|Zz0 (Zz6 (Zl13 T) hr T.q_law_cell ZB<|Zz0 (pv 0)<|Zz0 (pv 6) Zz3)<|Zz0 (Zn Zc1 Zz7<|pv 6) Zz3)
   (Zz2 (Zg (i:=8) scZc1.nd Z (Or.inl Z)<|Zy9 (Zo14 T) (hr.mono J) Z T.q_law_no_lines.mm T.q_law_no_lines.fn.kp T.q_law_no_lines.bi .nil ZB)
   (Zz2 (Zg (i:=9) scZc1.nd Z (Or.inl Z)<|ZC (Zb K) (pv 8) (Zn ZM (Zn Zg1 (pv 7) Zz7)<|Zc (Zh K) XS T.n_len Boot.«len»<|Zz0 (pv 8) Zz3) λ_ _=>rfl)
   (Zz2 (Zg (i:=10) scZc1.nd Z (Or.inl Z)<|Zz36 Zv2 Zv2 Zv2 Zv2 Zv2 Zv2)
   (Zz2 (Zz61 (Zi Zz32 (Zn ZM (pv 7) Zz7) Zz7<|Zq _)
   (Zz2 (Zg (i:=11) scZc1.nd Z (Or.inl Z)<|Zz6 (Zn14 T) hr T.q_law_due_lines ZB<|Zz0 (pv 5)<|Zz0 (Zc (Zh K) XS T.n_len Boot.«len»<|Zz0 (pv 2) Zz3)<|Zz0 (Zn ZM (Zz6 (Zl13 T) hr T.q_law_cell ZB<|Zz0 (pv 0)<|Zz0 (pv 6) Zz3)<|Zn Zp3 Zz7 Zz7) Zz3)
   (Zz2 (ZP3 (ZC (Zb K) (pv 11) (Zn ZM (Zn Zg1 (pv 7) Zz7)<|Zc (Zh K) XS T.n_len Boot.«len»<|Zz0 (pv 11) Zz3) λ_ _=>rfl)<|Zv1 (n:=2) K Z<|Zv (Zf (i:=9) scZc1.nd Z<|Or.inl Z)<|Zv (Zf (i:=12) scZc1.nd Z<|Or.inl Z) Zu1)
   (Zz5<|Zg (i:=10) scZc1.nd Z (Or.inl Z)<|Zz36 (ZN1 Zz32 (pv 12) Zz7<|Zq _) (ZN1 Zz32 (pv 12) Zz7<|Zq _) (ZN1 Zz32 (pv 12) Zz7<|Zq _) Zv2 Zv2 Zv2)))
   Zm)
   (Zz5 (Zz61 (PW.pt<|ZD10 (Zi (ZC4 K<|hu8 hr) (Zz6 (Zj13 T) hr T.q_law_kinds ZB<|Zz0 (pv 4)<|Zz0 (pv 9) Zz3) (pv 10)<|Zq _)<|Zb5<|Zi Zz86 (Zi2 (pv 4) T.cl_Desk T.me_Desk_text (okZY T) (hr.mono J) T.bZY .nil ZB) (pv 3)<|Zq _)
   (Zz5<|Zk Zv2)
   Zm))))))))
   (Zz2 (Zg (i:=13) scZc1.nd Z (Or.inl Z)<|Zz36 Zv2 Zv2 Zv2 Zv2 Zv2 Zv2)
   (Zz2 (Zz61 (PW.pt<|Zc5 (Zi Zz32 (pv 5) Zz7<|Zq _)<|ZC2<|PW.pt<|ZD10 (Zi (ZC4 K<|hu8 hr) (Zz6 (Zj13 T) hr T.q_law_kinds ZB<|Zz0 (pv 4)<|Zz0 Zr Zz3) (pv 13)<|Zq _)<|Zb5<|Zi (ZC4 K<|hu8 hr) (Zz6 (Zj13 T) hr T.q_law_kinds ZB<|Zz0 (pv 4)<|Zz0 Zr Zz3) (pv 13)<|Zq _)
   (Zz5<|Zk Zv2)
   Zm)
   (Zz5<|Zk Zv2)))))))),?_⟩
  refine⟨_,Z,a,ns,5,9,Z,hS,hn63,J,J,J,J,λr l n xs ps H1 s1 hr1 hl0 hl1 hP hG hnm hcc=>?_⟩;refine⟨r,_,Z,SqT.of hr1,Z,_,_,Z,_,_,Z,Z,?_⟩;have hxl:=hP.1
  refine⟨_,Z,_,Z,_,Z,_,Z,l,xs,Z,.inl<|SqL.of hl1,a,ns,xs.length,Z,s1.seq hS,hn63,XT,λb ls H2 s2 _ hb hll hT=>?_⟩;have heq:ls.length=ps.length:=XT
  refine⟨n,l,b,xs,ps,ls,Z,SqL.of<|s2 _ _ hl1,hP.same s2,SqL.of hb,hG,heq,hT,λH3 s3=>?_⟩;refine nm ?_;dsimp only;refine⟨_,Z,λx dx nx ndx nex=>?_⟩;have t6:Same H3 (upd (upd H3 dx<|.own x) x<|.ins t.A_Desk dx []):=ZA (Zz4 ndx) (by rwa[Zd (YU nex)])
  have okT:OkT (n,ps,ls):=⟨hG,heq,hT⟩;refine⟨x,dx,(n,ps,ls),Z,Zz1,okT,λd z0 H6 k6 hd0 hD hSt=>⟨Z,?_⟩⟩;have s6:Same H3 H6:=λb o e=>k6 b o (t6 b o e) (Ze e nx)
  refine nm ?_;dsimp only;have s16:=s2.trans (s3.trans s6)
  refine⟨_,Z,_,Z,n,l,xs,ps,Z,SqL.of<|s16 _ _ hl1,hP.same s16,hG,XT,XT,λr7 ys L H7 s7 hr7 hT7 hL hmem hlex=>⟨r7,ys,Z,.inl<|SqL.of hr7,?_⟩⟩;have hyl:ys.length=L.length:=hT7.1
  rw[hyl];have hc:TC n ps L.length:=⟨L,Zr6 hlex,hmem,Z⟩
  have hS7:=(s1.trans<|s16.trans s7).seq hS;have hD7:DeskAt t.A_Desk H7 x d ([]++[z0]):=hD.same s7
  have hSt7:=hSt.same s7;have hl7:=(s16.trans s7) _ _ hl1
  refine nm ?_;dsimp only;generalize L.length=c at *;have z1:100000<=sizeLine:=J
  have six:6<=sizeLine:=XT;refine⟨_,Z,a,_,Z,.inl hS7,_,_,Z,_,_,Z,_,Z,ZW8 (k:=20) hn63 J,ZX8 (k:=20) hn63 J,?_⟩;refine ZZ (λi σ H8=>∃(v6 v7 v8 v9 v10 v11 v12 v13:Option V),σ=[some (.ref a),some<|.int n,some<|.ref l,some<|.str<|Zr5 n ps ls,some<|.ref x,some<|.int (c:Int),v6,v7,v8,v9,v10,v11,v12,v13]/\Same H7 H8) ⟨none,none,none,none,none,none,none,none,Z,Same.refl _⟩ ?_ ?_;rotate_left
  ·rintro σ H8 ⟨v6,v7,v8,v9,v10,v11,v12,v13,rfl,s8⟩;refine⟨six,λpd hpd=>?_⟩;have ud:=s8.trans (Zz4 (o:=.lst<|(kdL 3).map V.bl) hpd)
   have kd:(upd H8 pd<|.lst<|(kdL 3).map V.bl) pd=some (.lst<|(kdL 3).map V.bl):=Zz1;refine nm ?_;dsimp only;change tSeq _ _ _ _ (upd H8 pd<|.lst<|(kdL 3).map V.bl);generalize upd H8 pd (.lst<|(kdL 3).map V.bl)=H9 at *;refine⟨_,Z,Z,_,Z,?_⟩;rw[Zz];refine itd2 (λh0=>?_) (λh0=>?_)
   ·have hno:∀U,¬Zo n ps U:=λU hU=>by
     obtain⟨M,_,m2,m3⟩:=hc
     have:M=[]:=YH.mp XT
     rw[this]at m2;cases (m2 U).mpr hU
    refine⟨_,Z,x,d,[],z0,(n,ps,ls),"cheapest",3,Z,hD7.same ud,hSt7.same ud,okT,Yr _,S,S,.inr ⟨S,.inr<|.inr<|.inr ⟨Z,hno,.inl S⟩⟩,λr3 HA sA hr3=>?_⟩;refine⟨_,Z,1,_,r3,pd,Z,Z,J,Zz23 (bs:=kdL 3) (cs:=kdL 3) (SqL.of hr3)<|SqL.of<|sA _ _ kd,_,Z,?_⟩;refine itn (c:=kdL 3=kdL 3) Z ?_;refine⟨_,Z,x,d,[],z0,(n,ps,ls),"share -",3,Z,(hD7.same ud).same sA,(hSt7.same ud).same sA,okT,Yr _,S,S,.inr ⟨S,.inr<|.inr<|.inr ⟨Z,hno,.inr S⟩⟩,λr4 HB sB hr4=>?_⟩;refine⟨_,Z,1,_,r4,pd,Z,Z,J,Zz23 (bs:=kdL 3) (cs:=kdL 3) (SqL.of hr4)<|SqL.of<|(sA.trans sB) _ _ kd,_,Z,?_⟩;refine itn (c:=kdL 3=kdL 3) Z ?_;exact k _
   ·refine iteF ?_;exact k _
  rintro i σ H8 hi ⟨v6,v7,v8,v9,v10,v11,v12,v13,rfl,s8⟩;refine⟨_,Z,_,Z,a,ns,_,Z,s8.seq hS7,XT,λc0 g0 g1=>?_⟩;refine⟨_,Z,_,_,Z,Z,_,_,Z,λm m0 m1=>?_⟩;refine nm ?_;dsimp only;refine⟨Z,λsA H9 s9 hsA=>?_⟩;refine nm ?_;dsimp only;have nl:(TL noL).length=30:=by rw[Zx];exact Zw11
  obtain⟨j,ln0,hj,hln⟩:∃(j:Nat)(ln0:Str),m/2%((TL noL).length:Int)=(j:Int)/\noL[j]?=some ln0:=by refine⟨(m/2%30).toNat,_,by rw[nl];omega,Yy0<|by rw[Zw11];omega⟩
  refine⟨_,Z,_,Z,_,_,Z,Z,⟨J,J⟩,_,Z,sA,_,Z,.inl<|SqL.of hsA,_,_,Z,Z,(by show(0:Int)<_;rw[nl];decide),sA,_,_,.str ln0,Z,Z,SqL.of hsA,?_,?_⟩
  ·rw[hj];exact Zw (n:=j) XT (by unfold TL;rw[Yg,hln];rfl)
  refine nm ?_;dsimp only;have ok0:=ZG9 ln0 (Yy8 hln)
  refine⟨six,λdA hdA=>?_⟩;have sD:=(s8.trans s9).trans (Zz4 (o:=.lst<|(kdL 4).map V.bl) hdA)
  have kA:(upd H9 dA<|.lst<|(kdL 4).map V.bl) dA=some (.lst<|(kdL 4).map V.bl):=Zz1;refine nm ?_;dsimp only;change tSeq _ _ _ _ (upd H9 dA<|.lst<|(kdL 4).map V.bl);generalize upd H9 dA (.lst<|(kdL 4).map V.bl)=HD at *;refine ZC13 (λσ HE=>∃(line:Str)(dB:Addr)(kk:Nat)(v11 v12:Option V),σ=[some (.ref a),some<|.int n,some<|.ref l,some<|.str<|Zr5 n ps ls,some<|.ref x,some<|.int (c:Int),some<|.int<|0+(i:Int),some<|.int m,some<|.ref sA,some<|.str line,some<|.ref dB,v11,v12,v13]/\Same H7 HE/\HE dB=some (.lst<|(kdL kk).map V.bl)/\(line.cps.all λc=>decide<|c<128)=true/\line.length<=90000/\AskK n ps line kk) ?_ ?_;rotate_left
  ·intro Kn hK;refine⟨_,Z,_,_,Z,Z,(by show(0:Int)<2;decide),Z,_,Z,?_⟩;rw[Zz];refine itd2 (λh1=>?_) (λh1=>?_)
   ·refine⟨_,Z,_,Z,l,xs,Z,.inl<|SqL.of<|sD _ _ hl7,_,Z,_,Z,a,ns,_,Z,sD.seq hS7,XT,λc2 q0 q1=>?_⟩;refine⟨_,_,Z,Z,⟨J,J,J⟩,_,_,Z,Z,(by show(0:Int)<10^50;decide),(c:Int),(xs.length:Int),c2%10^50,Z,XT,XT,XT,XT,XT,XT,λpA ys2 HE sE hpA hB=>?_⟩;refine nm ?_;dsimp only;rw[hxl]at hB;have yl:ys2.length=12:=hB.1
    obtain⟨j2,vv,hj2,hvv⟩:∃(j2:Nat)(vv:V),m/2%(ys2.length:Int)=(j2:Int)/\ys2[j2]?=some vv:=by refine⟨(m/2%12).toNat,_,by rw[yl];omega,Yy0<|by rw[yl];omega⟩
    obtain⟨pp,hpp,tt,rfl,htt⟩:=hB.at hvv;obtain⟨o1,o2,o3,w0,w2⟩:=Zz912 hc XT XT XT XT (Yy8 hpp);refine⟨_,Z,_,Z,_,_,Z,Z,⟨J,J⟩,_,Z,pA,_,Z,.inl<|SqL.of hpA,_,_,Z,Z,(by show(0:Int)<_;rw[yl];decide),pA,_,_,.ref tt,Z,Z,SqL.of hpA,?_,?_⟩
    ·rw[hj2];exact Zw (n:=j2) Z hvv
    refine⟨tt,_,rfl,SqT.of htt,rfl,_,_,rfl,_,_,rfl,rfl,?_⟩;refine⟨_,rfl,rfl,_,rfl,rfl,_,rfl,rfl,six,λdB hdB=>?_⟩;have eB:[V.bl (decide<|V.int pp.2.2=V.int 0),V.bl<|decide<|V.int pp.2.2=V.int 1,V.bl<|decide<|V.int pp.2.2=V.int 2,V.bl false,V.bl false,V.bl true]=(kdL pp.2.2.toNat).map V.bl:=by rw[Zz,Zz,Zz];rcases(by omega:pp.2.2=0\/pp.2.2=1\/pp.2.2=2) with e|e|e<;>rw[e]<;>rfl
    rw[eB]at *;refine nm ?_;exact hK _ _ ⟨askT pp,dB,pp.2.2.toNat,_,_,Z,sD.trans<|sE.trans<|Zz4 hdB,Zz1,o1,o2,o3⟩
   ·exact hK _ _ ⟨ln0,dA,4,_,_,Z,sD,kA,ok0.1,ok0.2.1,.inl ⟨Z,ok0.2.2⟩⟩
  rintro σ HE ⟨line,dB,kk,v11,v12,rfl,sE,kB,o1,o2,o3⟩;refine⟨_,Z,_,Z,x,d,[],z0,(n,ps,ls),line,kk,Z,hD7.same sE,hSt7.same sE,okT,Yr _,o1,o2,o3,λr3 HF sF hr3=>?_⟩;refine⟨_,Z,1,_,r3,dB,Z,Z,J,Zz23 (bs:=kdL kk) (cs:=kdL kk) (SqL.of hr3)<|SqL.of<|sF _ _ kB,_,Z,?_⟩;refine itn (c:=kdL kk=kdL kk) Z ?_;have hDF:=hD7.same (sE.trans sF)
  obtain⟨dxF,hxF,hdF⟩:=id hDF;refine⟨_,Z,x,dxF,_,Z,hxF,XS,x,d,[],z0,(n,ps,ls),Z,hDF,hSt7.same<|sE.trans sF,okT,Yr _,λHG sG=>?_⟩;refine⟨_,Z,Z,_,Z,?_⟩;refine itn Z ?_;exact⟨_,_,_,_,_,_,_,_,Z,(sE.trans sF).trans sG⟩
end
end My
namespace My
open PySem L2
theorem law_binds {K:PySem.W.Frag} {f:Addr} {fd:FuncData} (F:Fun K "law" "law" sZc1 f fd) (s:Shared) (u:Value):BindsTo s fd ⟨[u],[]⟩ [("script",u)]:=by obtain⟨oc,od,kV,doc,pm,an,cdv,ct,osl,rfl,lk,hcd⟩:=F.ex;exact .of_eq rfl
end My
open PySem PySem.W PyProof.Rows
set_option maxRecDepth 100000 in
set_option maxHeartbeats 0 in
theorem PySem.Challenge.cw_spanrow_k88_lines_refused_holds : PySem.Challenge.rw_spanrow_k88_lines_refused.Holds := by
 w_on;o_law;k_head;(case hw=>w_witness2)
 k_fill
 refine L2.walk_ofK (l:=PySem.Challenge.rw_spanrow_k88_lines_refused) (n:=63) (k:=16) (x:="script") (CX:=L2.CX0) (sp:=My.spZc1) rfl (by decide) rfl ⟨rfl,by decide,by decide⟩ (λw h Y=>PySem.W.km_in_of Y) ?F (λ_ H a ns hl _ hS=>⟨a,ns,rfl,hS,hl,λ_=>rfl⟩) (λ_ _ _ _ z=>z)
 case F =>
  intro w mg fa h KX G hmg;obtain⟨⟨aZ0,dZ0,q_refuse_not_square⟩,⟨aZ1,dZ1,q_row_taken_off⟩,⟨aZ2,dZ2,q_first_with_some⟩,⟨aZ3,dZ3,q_determinant⟩,⟨aZ4,dZ4,q_row_without⟩,⟨aZ5,dZ5,q_table_without⟩,⟨aZ6,dZ6,q_is_tie⟩,⟨aZ7,dZ7,q_refuse_bad_web⟩,⟨aZ9,dZ9,q_refuse_bad_row⟩,⟨aZa,dZa,q_all_ties⟩,⟨aZb,dZb,q_ties_beside⟩,⟨aZc,dZc,q_is_set⟩,⟨aZd,dZd,q_made_set⟩,⟨aZe,dZe,q_merged_marks⟩,⟨aZf,dZf,q_piece_marks⟩,⟨aZg,dZg,q_pieces_of⟩,⟨aZh,dZh,q_is_joined⟩,⟨aZi,dZi,q_refuse_parted⟩,⟨aZj,dZj,q_weighted_table⟩,⟨aZk,dZk,q_pull_table⟩,⟨aZl,dZl,q_tree_count⟩,⟨aZm,dZm,q_part_count⟩,⟨aZn,dZn,q_is_tree⟩,⟨aZo,dZo,q_refuse_no_tree⟩,⟨aZp,dZp,q_grown_tree⟩,⟨aZq,dZq,q_least_tree⟩,⟨aZr,dZr,q_tree_at⟩,⟨aZs,dZs,q_lesser_ties⟩,⟨aZt,dZt,q_number_of⟩,⟨aZu,dZu,q_cheapest_web⟩,⟨aZv,dZv,q_cheapest_tree⟩,⟨aZw,dZw,q_refuse_below_nought⟩,⟨aZx,dZx,q_whole_part⟩,⟨aZy,dZy,q_trees_between⟩,⟨aZz,dZz,q_number_in⟩,⟨aZA,dZA,q_row_from⟩,⟨aZB,dZB,q_row_at⟩,⟨aZC,dZC,q_row_number⟩,⟨aZD,dZD,q_row_next⟩,⟨aZE,dZE,q_fraction⟩,⟨aZF,dZF,q_share_of⟩,⟨aZG,dZG,q_ties_text⟩,⟨aZH,dZH,q_fraction_text⟩,⟨aZI,dZI,q_answer_alone⟩,⟨aZJ,dZJ,q_rank_text⟩,⟨aZK,dZK,q_answer_of_number⟩,⟨aZL,dZL,q_next_text⟩,⟨aZM,dZM,q_answer_of_ties⟩,⟨aZN,dZN,q_is_number⟩,⟨aZO,dZO,q_read_number⟩,⟨aZP,dZP,q_read_line⟩,⟨aZQ,dZQ,q_read_web⟩,⟨aZR,dZR,q_read_ties⟩,⟨aZS,dZS,q_numbers_text⟩,⟨aZT,dZT,q_web_text⟩,⟨aZU,dZU,q_answer_to⟩,⟨aZ01,dZ01,q_law_cell⟩,⟨aZ11,dZ11,q_law_mixed⟩,⟨aZ21,dZ21,q_law_draws⟩,⟨aZ31,dZ31,q_law_ties⟩,⟨aZ41,dZ41,q_law_web⟩,⟨aZ51,dZ51,q_law_marks⟩,⟨aZ61,dZ61,q_law_all⟩,⟨aZ71,dZ71,q_law_lengths⟩,⟨aZ81,dZ81,q_law_text⟩,⟨aZ91,dZ91,q_law_no_lines⟩,⟨aZa1,dZa1,q_law_due_lines⟩,⟨aZb1,dZb1,q_law_kinds⟩,⟨aZc1,dZc1,q_law⟩⟩:My.FQ (L2.KOf KX) mg "refuse_not_square" (My.top 13) ["table"]/\My.FQ (L2.KOf KX) mg "row_taken_off" (My.top 14) ["row","pivot","last"]/\My.FQ (L2.KOf KX) mg "first_with_some" (My.top 15) ["rows"]/\My.FQ (L2.KOf KX) mg "determinant" (My.top 16) ["table"]/\My.FQ (L2.KOf KX) mg "row_without" (My.top 17) ["row","number"]/\My.FQ (L2.KOf KX) mg "table_without" (My.top 18) ["table","number"]/\My.FQ (L2.KOf KX) mg "is_tie" (My.top 26) ["web","number"]/\My.FQ (L2.KOf KX) mg "refuse_bad_web" (My.top 25) ["places","ties"]/\My.FQ (L2.KOf KX) mg "refuse_bad_row" (My.top 27) ["web","numbers"]/\My.FQ (L2.KOf KX) mg "all_ties" (My.top 28) ["web"]/\My.FQ (L2.KOf KX) mg "ties_beside" (My.top 29) ["web","ties"]/\My.FQ (L2.KOf KX) mg "is_set" (My.top 31) ["web","ties"]/\My.FQ (L2.KOf KX) mg "made_set" (My.top 32) ["web","ties"]/\My.FQ (L2.KOf KX) mg "merged_marks" (My.top 33) ["web","marks","ties"]/\My.FQ (L2.KOf KX) mg "piece_marks" (My.top 34) ["web","ties"]/\My.FQ (L2.KOf KX) mg "pieces_of" (My.top 35) ["web","ties"]/\My.FQ (L2.KOf KX) mg "is_joined" (My.top 36) ["web","ties"]/\My.FQ (L2.KOf KX) mg "refuse_parted" (My.top 37) ["web"]/\My.FQ (L2.KOf KX) mg "weighted_table" (My.top 39) ["web","weights"]/\My.FQ (L2.KOf KX) mg "pull_table" (My.top 40) ["web"]/\My.FQ (L2.KOf KX) mg "tree_count" (My.top 41) ["web"]/\My.FQ (L2.KOf KX) mg "part_count" (My.top 42) ["web","inside","outside"]/\My.FQ (L2.KOf KX) mg "is_tree" (My.top 44) ["web","ties"]/\My.FQ (L2.KOf KX) mg "refuse_no_tree" (My.top 45) ["web","tree"]/\My.FQ (L2.KOf KX) mg "grown_tree" (My.top 46) ["web","inside","order"]/\My.FQ (L2.KOf KX) mg "least_tree" (My.top 47) ["web"]/\My.FQ (L2.KOf KX) mg "tree_at" (My.top 52) ["web","number"]/\My.FQ (L2.KOf KX) mg "lesser_ties" (My.top 53) ["ties","bound"]/\My.FQ (L2.KOf KX) mg "number_of" (My.top 54) ["web","tree"]/\My.FQ (L2.KOf KX) mg "cheapest_web" (My.top 58) ["web","lengths"]/\My.FQ (L2.KOf KX) mg "cheapest_tree" (My.top 59) ["web","lengths"]/\My.FQ (L2.KOf KX) mg "refuse_below_nought" (My.top 55) ["number"]/\My.FQ (L2.KOf KX) mg "whole_part" (My.top 68) ["web"]/\My.FQ (L2.KOf KX) mg "trees_between" (My.top 74) ["part","size","start","stop"]/\My.FQ (L2.KOf KX) mg "number_in" (My.top 75) ["part","size","tree"]/\My.FQ (L2.KOf KX) mg "row_from" (My.top 76) ["web","number","most"]/\My.FQ (L2.KOf KX) mg "row_at" (My.top 77) ["web","number"]/\My.FQ (L2.KOf KX) mg "row_number" (My.top 78) ["web","tree"]/\My.FQ (L2.KOf KX) mg "row_next" (My.top 79) ["web","tree"]/\My.FQ (L2.KOf KX) mg "fraction" (My.top 20) ["top","bottom"]/\My.FQ (L2.KOf KX) mg "share_of" (My.top 81) ["web","ties"]/\My.FQ (L2.KOf KX) mg "ties_text" (My.top 91) ["ties"]/\My.FQ (L2.KOf KX) mg "fraction_text" (My.top 92) ["pair"]/\My.FQ (L2.KOf KX) mg "answer_alone" (My.top 98) ["web","lengths","name"]/\My.FQ (L2.KOf KX) mg "rank_text" (My.top 99) ["web","lengths","most"]/\My.FQ (L2.KOf KX) mg "answer_of_number" (My.top 100) ["web","lengths","name","number"]/\My.FQ (L2.KOf KX) mg "next_text" (My.top 101) ["web","tree"]/\My.FQ (L2.KOf KX) mg "answer_of_ties" (My.top 102) ["web","name","ties"]/\My.FQ (L2.KOf KX) mg "is_number" (My.top 85) ["word"]/\My.FQ (L2.KOf KX) mg "read_number" (My.top 86) ["word"]/\My.FQ (L2.KOf KX) mg "read_line" (My.top 87) ["line","name","many"]/\My.FQ (L2.KOf KX) mg "read_web" (My.top 88) ["text"]/\My.FQ (L2.KOf KX) mg "read_ties" (My.top 103) ["words"]/\My.FQ (L2.KOf KX) mg "numbers_text" (My.top 89) ["numbers"]/\My.FQ (L2.KOf KX) mg "web_text" (My.top 90) ["web","lengths"]/\My.FQ (L2.KOf KX) mg "answer_to" (My.top 104) ["web","lengths","line"]/\My.FQ (L2.KOf KX) mg "_law_cell" (My.top 108) ["script","k"]/\My.FQ (L2.KOf KX) mg "_law_mixed" (My.top 109) ["cell","k"]/\My.FQ (L2.KOf KX) mg "_law_draws" (My.top 110) ["script","start","count","way"]/\My.FQ (L2.KOf KX) mg "_law_ties" (My.top 111) ["draws","places","hang"]/\My.FQ (L2.KOf KX) mg "_law_web" (My.top 112) ["script","most","count"]/\My.FQ (L2.KOf KX) mg "_law_marks" (My.top 113) ["places","ties","some"]/\My.FQ (L2.KOf KX) mg "_law_all" (My.top 114) ["places","ties"]/\My.FQ (L2.KOf KX) mg "_law_lengths" (My.top 115) ["script","count"]/\My.FQ (L2.KOf KX) mg "_law_text" (My.top 116) ["places","ties","lengths"]/\My.FQ (L2.KOf KX) mg "_law_no_lines" (My.top 117) []/\My.FQ (L2.KOf KX) mg "_law_due_lines" (My.top 118) ["many","count","far"]/\My.FQ (L2.KOf KX) mg "_law_kinds" (My.top 119) ["desk","line"]/\My.FQ (L2.KOf KX) mg "law" My.sZc1 ["script"]:=by
   dsimp only [L2.KOf];refine⟨?_,?_,?_,?_,?_,?_,?_,?_,?_,?_,?_,?_,?_,?_,?_,?_,?_,?_,?_,?_,?_,?_,?_,?_,?_,?_,?_,?_,?_,?_,?_,?_,?_,?_,?_,?_,?_,?_,?_,?_,?_,?_,?_,?_,?_,?_,?_,?_,?_,?_,?_,?_,?_,?_,?_,?_,?_,?_,?_,?_,?_,?_,?_,?_,?_,?_,?_,?_,?_⟩
   all_goals (refine' My.fq_mk KX G ?a ?l ?c ?k ?b;(case a | l | c | k=>k_is);(case b=>first | exact λ_ _ _ _ _ _=>My.un0 rfl | exact λ_ _ _ _ _ _=>My.un1 λ_=>rfl | exact λ_ _ _ _ _ _=>My.un2 λ_ _=>rfl | exact λ_ _ _ _ _ _=>My.un3 λ_ _ _=>rfl | exact λ_ _ _ _ _ _=>My.un4 λ_ _ _ _=>rfl))
  have h_Web:My.CXF (L2.KOf KX) mg "Web" "Web.__init__" My.sZ8 ["places","ties"]:=by
   dsimp only [L2.KOf];refine' My.cx_mk KX G ?aC ?a ?i ?l ?c ?k ?pg ?hd ?po ?sa ?mk ?kc ?na
   (case aC=>k_is);(case a=>k_is);(case i=>k_is);(case l=>k_is);(case c=>k_is);(case k=>k_is)
   (case pg=>k_is);(case hd=>k_is);(case po=>k_is);(case sa=>k_is);(case mk=>k_is);(case kc=>k_is)
   (case na=>(intro f hf;simp only [Ye,Y2N,or_false]at hf;rcases hf with rfl | rfl <;> k_is))
  have h_Desk:My.CXF (L2.KOf KX) mg "Desk" "Desk.__init__" My.sZV ["stages"]:=by
   dsimp only [L2.KOf];refine' My.cx_mk KX G ?aC ?a ?i ?l ?c ?k ?pg ?hd ?po ?sa ?mk ?kc ?na
   (case aC=>k_is);(case a=>k_is);(case i=>k_is);(case l=>k_is);(case c=>k_is);(case k=>k_is)
   (case pg=>k_is);(case hd=>k_is);(case po=>k_is);(case sa=>k_is);(case mk=>k_is);(case kc=>k_is)
   (case na=>(intro f hf;simp only [Ye,Y2N,or_false]at hf;rcases hf with rfl <;> k_is))
  have hZW:My.MXF (L2.KOf KX) mg "Desk" "web_now" "Desk.web_now" My.sZW:=by
   dsimp only [L2.KOf];refine' My.mx_mk KX G ?aC ?a ?i ?l ?c ?k
   (case aC=>k_is);(case a=>k_is);(case i=>k_is);(case l=>k_is);(case c=>k_is);(case k=>k_is)
  have hZX:My.MXF (L2.KOf KX) mg "Desk" "lengths_now" "Desk.lengths_now" My.sZX:=by
   dsimp only [L2.KOf];refine' My.mx_mk KX G ?aC ?a ?i ?l ?c ?k
   (case aC=>k_is);(case a=>k_is);(case i=>k_is);(case l=>k_is);(case c=>k_is);(case k=>k_is)
  have hZY:My.MXF (L2.KOf KX) mg "Desk" "text" "Desk.text" My.sZY:=by
   dsimp only [L2.KOf];refine' My.mx_mk KX G ?aC ?a ?i ?l ?c ?k
   (case aC=>k_is);(case a=>k_is);(case i=>k_is);(case l=>k_is);(case c=>k_is);(case k=>k_is)
  have hZZ:My.MXF (L2.KOf KX) mg "Desk" "asked" "Desk.asked" My.sZZ:=by
   dsimp only [L2.KOf];refine' My.mx_mk KX G ?aC ?a ?i ?l ?c ?k
   (case aC=>k_is);(case a=>k_is);(case i=>k_is);(case l=>k_is);(case c=>k_is);(case k=>k_is)
  have hX:∃ A_WebError A_BadSet A_Parted A_NoTree A_NoSuch A_BadRow A_BadText:Addr,mg "WebError"=some (.ref A_WebError)/\mg "BadSet"=some (.ref A_BadSet)/\mg "Parted"=some (.ref A_Parted)/\mg "NoTree"=some (.ref A_NoTree)/\mg "NoSuch"=some (.ref A_NoSuch)/\mg "BadRow"=some (.ref A_BadRow)/\mg "BadText"=some (.ref A_BadText)/\L2.XCls (L2.KOf KX) (A_BadRow)/\L2.XCls (L2.KOf KX) (A_BadSet)/\L2.XCls (L2.KOf KX) (A_Parted)/\L2.XCls (L2.KOf KX) (A_NoTree)/\L2.XCls (L2.KOf KX) (A_NoSuch)/\L2.XCls (L2.KOf KX) (A_BadText)/\PySem.W.kitOne (L2.KOf KX) (.ref (A_BadRow)) (.ref (A_NoSuch))=some false/\PySem.W.kitOne (L2.KOf KX) (.ref (A_BadRow)) (.ref (A_NoTree))=some false/\PySem.W.kitOne (L2.KOf KX) (.ref (A_BadRow)) (.ref (A_BadSet))=some false/\PySem.W.kitOne (L2.KOf KX) (.ref (A_BadRow)) (.ref (A_Parted))=some false/\PySem.W.kitOne (L2.KOf KX) (.ref (A_BadRow)) (.ref (A_BadText))=some false/\PySem.W.kitOne (L2.KOf KX) (.ref (A_BadRow)) (.type "ValueError")=some true/\PySem.W.exmOne (L2.KOf KX) (.ref (A_BadRow)) (.ref (A_WebError))=some true/\PySem.W.kitOne (L2.KOf KX) (.ref (A_BadSet)) (.ref (A_NoSuch))=some false/\PySem.W.kitOne (L2.KOf KX) (.ref (A_BadSet)) (.ref (A_NoTree))=some false/\PySem.W.kitOne (L2.KOf KX) (.ref (A_BadSet)) (.ref (A_Parted))=some false/\PySem.W.kitOne (L2.KOf KX) (.ref (A_BadSet)) (.ref (A_BadText))=some false/\PySem.W.kitOne (L2.KOf KX) (.ref (A_BadSet)) (.type "ValueError")=some true/\PySem.W.exmOne (L2.KOf KX) (.ref (A_BadSet)) (.ref (A_WebError))=some true/\PySem.W.kitOne (L2.KOf KX) (.ref (A_Parted)) (.ref (A_NoSuch))=some false/\PySem.W.kitOne (L2.KOf KX) (.ref (A_Parted)) (.ref (A_NoTree))=some false/\PySem.W.kitOne (L2.KOf KX) (.ref (A_Parted)) (.ref (A_BadSet))=some false/\PySem.W.kitOne (L2.KOf KX) (.ref (A_Parted)) (.ref (A_BadText))=some false/\PySem.W.kitOne (L2.KOf KX) (.ref (A_Parted)) (.type "ValueError")=some true/\PySem.W.exmOne (L2.KOf KX) (.ref (A_Parted)) (.ref (A_WebError))=some true/\PySem.W.kitOne (L2.KOf KX) (.ref (A_NoTree)) (.ref (A_NoSuch))=some false/\PySem.W.kitOne (L2.KOf KX) (.ref (A_NoTree)) (.ref (A_BadSet))=some false/\PySem.W.kitOne (L2.KOf KX) (.ref (A_NoTree)) (.ref (A_Parted))=some false/\PySem.W.kitOne (L2.KOf KX) (.ref (A_NoTree)) (.ref (A_BadText))=some false/\PySem.W.kitOne (L2.KOf KX) (.ref (A_NoTree)) (.type "ValueError")=some true/\PySem.W.exmOne (L2.KOf KX) (.ref (A_NoTree)) (.ref (A_WebError))=some true/\PySem.W.kitOne (L2.KOf KX) (.ref (A_NoSuch)) (.ref (A_NoTree))=some false/\PySem.W.kitOne (L2.KOf KX) (.ref (A_NoSuch)) (.ref (A_BadSet))=some false/\PySem.W.kitOne (L2.KOf KX) (.ref (A_NoSuch)) (.ref (A_Parted))=some false/\PySem.W.kitOne (L2.KOf KX) (.ref (A_NoSuch)) (.ref (A_BadText))=some false/\PySem.W.kitOne (L2.KOf KX) (.ref (A_NoSuch)) (.type "ValueError")=some true/\PySem.W.exmOne (L2.KOf KX) (.ref (A_NoSuch)) (.ref (A_WebError))=some true/\PySem.W.kitOne (L2.KOf KX) (.ref (A_BadText)) (.ref (A_NoSuch))=some false/\PySem.W.kitOne (L2.KOf KX) (.ref (A_BadText)) (.ref (A_NoTree))=some false/\PySem.W.kitOne (L2.KOf KX) (.ref (A_BadText)) (.ref (A_BadSet))=some false/\PySem.W.kitOne (L2.KOf KX) (.ref (A_BadText)) (.ref (A_Parted))=some false/\PySem.W.kitOne (L2.KOf KX) (.ref (A_BadText)) (.type "ValueError")=some true/\PySem.W.exmOne (L2.KOf KX) (.ref (A_BadText)) (.ref (A_WebError))=some true:=by
   dsimp only [L2.KOf];refine' My.xI (My.xI (My.xI (My.xI (My.xI (My.xI (My.xI (⟨Y0j KX G ?m_WebError,Y0j KX G ?m_BadSet,Y0j KX G ?m_Parted,Y0j KX G ?m_NoTree,Y0j KX G ?m_NoSuch,Y0j KX G ?m_BadRow,Y0j KX G ?m_BadText,⟨?x_BadRow_ex,?x_BadRow_ga,?x_BadRow_gh,?x_BadRow_cl,?x_BadRow_ob,?x_BadRow_bx⟩,⟨?x_BadSet_ex,?x_BadSet_ga,?x_BadSet_gh,?x_BadSet_cl,?x_BadSet_ob,?x_BadSet_bx⟩,⟨?x_Parted_ex,?x_Parted_ga,?x_Parted_gh,?x_Parted_cl,?x_Parted_ob,?x_Parted_bx⟩,⟨?x_NoTree_ex,?x_NoTree_ga,?x_NoTree_gh,?x_NoTree_cl,?x_NoTree_ob,?x_NoTree_bx⟩,⟨?x_NoSuch_ex,?x_NoSuch_ga,?x_NoSuch_gh,?x_NoSuch_cl,?x_NoSuch_ob,?x_NoSuch_bx⟩,⟨?x_BadText_ex,?x_BadText_ga,?x_BadText_gh,?x_BadText_cl,?x_BadText_ob,?x_BadText_bx⟩,?ki_BadRow_NoSuch,?ki_BadRow_NoTree,?ki_BadRow_BadSet,?ki_BadRow_Parted,?ki_BadRow_BadText,?ki_BadRow_ValueError,?em_BadRow,?ki_BadSet_NoSuch,?ki_BadSet_NoTree,?ki_BadSet_Parted,?ki_BadSet_BadText,?ki_BadSet_ValueError,?em_BadSet,?ki_Parted_NoSuch,?ki_Parted_NoTree,?ki_Parted_BadSet,?ki_Parted_BadText,?ki_Parted_ValueError,?em_Parted,?ki_NoTree_NoSuch,?ki_NoTree_BadSet,?ki_NoTree_Parted,?ki_NoTree_BadText,?ki_NoTree_ValueError,?em_NoTree,?ki_NoSuch_NoTree,?ki_NoSuch_BadSet,?ki_NoSuch_Parted,?ki_NoSuch_BadText,?ki_NoSuch_ValueError,?em_NoSuch,?ki_BadText_NoSuch,?ki_BadText_NoTree,?ki_BadText_BadSet,?ki_BadText_Parted,?ki_BadText_ValueError,?em_BadText⟩)))))))
   (case m_WebError=>k_is)
   (case m_BadSet=>k_is)
   (case m_Parted=>k_is)
   (case m_NoTree=>k_is)
   (case m_NoSuch=>k_is)
   (case m_BadRow=>k_is)
   (case m_BadText=>k_is)
   (case x_BadRow_ex=>k_exc);(case x_BadRow_ga=>k_is);(case x_BadRow_gh=>k_is);(case x_BadRow_cl=>k_is);(case x_BadRow_ob=>k_is);(case x_BadRow_bx=>k_is)
   (case x_BadSet_ex=>k_exc);(case x_BadSet_ga=>k_is);(case x_BadSet_gh=>k_is);(case x_BadSet_cl=>k_is);(case x_BadSet_ob=>k_is);(case x_BadSet_bx=>k_is)
   (case x_Parted_ex=>k_exc);(case x_Parted_ga=>k_is);(case x_Parted_gh=>k_is);(case x_Parted_cl=>k_is);(case x_Parted_ob=>k_is);(case x_Parted_bx=>k_is)
   (case x_NoTree_ex=>k_exc);(case x_NoTree_ga=>k_is);(case x_NoTree_gh=>k_is);(case x_NoTree_cl=>k_is);(case x_NoTree_ob=>k_is);(case x_NoTree_bx=>k_is)
   (case x_NoSuch_ex=>k_exc);(case x_NoSuch_ga=>k_is);(case x_NoSuch_gh=>k_is);(case x_NoSuch_cl=>k_is);(case x_NoSuch_ob=>k_is);(case x_NoSuch_bx=>k_is)
   (case x_BadText_ex=>k_exc);(case x_BadText_ga=>k_is);(case x_BadText_gh=>k_is);(case x_BadText_cl=>k_is);(case x_BadText_ob=>k_is);(case x_BadText_bx=>k_is)
   (case ki_BadRow_NoSuch=>kit_is)
   (case ki_BadRow_NoTree=>kit_is)
   (case ki_BadRow_BadSet=>kit_is)
   (case ki_BadRow_Parted=>kit_is)
   (case ki_BadRow_BadText=>kit_is)
   (case ki_BadRow_ValueError=>kit_is)
   (case em_BadRow=>kts_exm)
   (case ki_BadSet_NoSuch=>kit_is)
   (case ki_BadSet_NoTree=>kit_is)
   (case ki_BadSet_Parted=>kit_is)
   (case ki_BadSet_BadText=>kit_is)
   (case ki_BadSet_ValueError=>kit_is)
   (case em_BadSet=>kts_exm)
   (case ki_Parted_NoSuch=>kit_is)
   (case ki_Parted_NoTree=>kit_is)
   (case ki_Parted_BadSet=>kit_is)
   (case ki_Parted_BadText=>kit_is)
   (case ki_Parted_ValueError=>kit_is)
   (case em_Parted=>kts_exm)
   (case ki_NoTree_NoSuch=>kit_is)
   (case ki_NoTree_BadSet=>kit_is)
   (case ki_NoTree_Parted=>kit_is)
   (case ki_NoTree_BadText=>kit_is)
   (case ki_NoTree_ValueError=>kit_is)
   (case em_NoTree=>kts_exm)
   (case ki_NoSuch_NoTree=>kit_is)
   (case ki_NoSuch_BadSet=>kit_is)
   (case ki_NoSuch_Parted=>kit_is)
   (case ki_NoSuch_BadText=>kit_is)
   (case ki_NoSuch_ValueError=>kit_is)
   (case em_NoSuch=>kts_exm)
   (case ki_BadText_NoSuch=>kit_is)
   (case ki_BadText_NoTree=>kit_is)
   (case ki_BadText_BadSet=>kit_is)
   (case ki_BadText_Parted=>kit_is)
   (case ki_BadText_ValueError=>kit_is)
   (case em_BadText=>kts_exm)
  have h_ALONE:∃ a,mg "ALONE"=some (.ref a)/\My.TupC (L2.KOf KX) a [L2.V.str "count",L2.V.str "cheapest"]:=by
   dsimp only [L2.KOf];refine' My.const_mkT KX G ?a ?l ?z ?r
   (case a | l=>k_is);(case z=>decide);(case r=>exact .cons ⟨_,rfl⟩ (.cons ⟨_,rfl⟩ .nil))
  have h_OF_A_NUMBER:∃ a,mg "OF_A_NUMBER"=some (.ref a)/\My.TupC (L2.KOf KX) a [L2.V.str "tree",L2.V.str "row",L2.V.str "rank"]:=by
   dsimp only [L2.KOf];refine' My.const_mkT KX G ?a ?l ?z ?r
   (case a | l=>k_is);(case z=>decide);(case r=>exact .cons ⟨_,rfl⟩ (.cons ⟨_,rfl⟩ (.cons ⟨_,rfl⟩ .nil)))
  have h_OF_TIES:∃ a,mg "OF_TIES"=some (.ref a)/\My.TupC (L2.KOf KX) a [L2.V.str "number",L2.V.str "place",L2.V.str "next",L2.V.str "share"]:=by
   dsimp only [L2.KOf];refine' My.const_mkT KX G ?a ?l ?z ?r
   (case a | l=>k_is);(case z=>decide);(case r=>exact .cons ⟨_,rfl⟩ (.cons ⟨_,rfl⟩ (.cons ⟨_,rfl⟩ (.cons ⟨_,rfl⟩ .nil))))
  have h_MOST_PLACES:∃ tk,mg "MOST_PLACES"=some (.int 14 tk):=by
   refine' My.const_mk KX G ?a ?b
   (case a=>k_is);(case b=>exact⟨_,rfl⟩)
  have h_MOST_TIES:∃ tk,mg "MOST_TIES"=some (.int 30 tk):=by
   refine' My.const_mk KX G ?a ?b
   (case a=>k_is);(case b=>exact⟨_,rfl⟩)
  have h_FIGURES:∃ tk,mg "FIGURES"=some (.str "0123456789" tk):=by
   refine' My.const_mkS KX G ?a ?b
   (case a=>k_is);(case b=>exact⟨_,rfl⟩)
  have h_MOST_FIGURES:∃ tk,mg "MOST_FIGURES"=some (.int 60 tk):=by
   refine' My.const_mk KX G ?a ?b
   (case a=>k_is);(case b=>exact⟨_,rfl⟩)
  have h_ValueError:mg "ValueError"=none:=by refine' YJ KX G ?a;case a=>k_is
  have h_any:mg "any"=none:=by refine' YJ KX G ?a;case a=>k_is
  have h_enumerate:mg "enumerate"=none:=by refine' YJ KX G ?a;case a=>k_is
  have h_int:mg "int"=none:=by refine' YJ KX G ?a;case a=>k_is
  have h_isinstance:mg "isinstance"=none:=by refine' YJ KX G ?a;case a=>k_is
  have h_len:mg "len"=none:=by refine' YJ KX G ?a;case a=>k_is
  have h_list:mg "list"=none:=by refine' YJ KX G ?a;case a=>k_is
  have h_max:mg "max"=none:=by refine' YJ KX G ?a;case a=>k_is
  have h_min:mg "min"=none:=by refine' YJ KX G ?a;case a=>k_is
  have h_range:mg "range"=none:=by refine' YJ KX G ?a;case a=>k_is
  have h_reversed:mg "reversed"=none:=by refine' YJ KX G ?a;case a=>k_is
  have h_set:mg "set"=none:=by refine' YJ KX G ?a;case a=>k_is
  have h_sorted:mg "sorted"=none:=by refine' YJ KX G ?a;case a=>k_is
  have h_str:mg "str"=none:=by refine' YJ KX G ?a;case a=>k_is
  have h_sum:mg "sum"=none:=by refine' YJ KX G ?a;case a=>k_is
  have h_tuple:mg "tuple"=none:=by refine' YJ KX G ?a;case a=>k_is
  have h_zip:mg "zip"=none:=by refine' YJ KX G ?a;case a=>k_is
  obtain⟨A_Web,aZ8,dZ8,c_Web,fZ8,cl_Web,k_Web,na_Web⟩:=h_Web;obtain⟨A_Desk,aZV,dZV,c_Desk,fZV,cl_Desk,k_Desk,na_Desk⟩:=h_Desk;obtain⟨C_Desk_web_now,aZW,dZW,cc_Desk_web_now,fZW,me_Desk_web_now⟩:=hZW;obtain rfl:A_Desk=C_Desk_web_now:=by have e0:=cc_Desk_web_now.symm.trans c_Desk;cases e0;rfl
  obtain⟨C_Desk_lengths_now,aZX,dZX,cc_Desk_lengths_now,fZX,me_Desk_lengths_now⟩:=hZX;obtain rfl:A_Desk=C_Desk_lengths_now:=by have e0:=cc_Desk_lengths_now.symm.trans c_Desk;cases e0;rfl
  obtain⟨C_Desk_text,aZY,dZY,cc_Desk_text,fZY,me_Desk_text⟩:=hZY;obtain rfl:A_Desk=C_Desk_text:=by have e0:=cc_Desk_text.symm.trans c_Desk;cases e0;rfl
  obtain⟨C_Desk_asked,aZZ,dZZ,cc_Desk_asked,fZZ,me_Desk_asked⟩:=hZZ;obtain rfl:A_Desk=C_Desk_asked:=by have e0:=cc_Desk_asked.symm.trans c_Desk;cases e0;rfl
  obtain⟨A_WebError,A_BadSet,A_Parted,A_NoTree,A_NoSuch,A_BadRow,A_BadText,c_WebError,c_BadSet,c_Parted,c_NoTree,c_NoSuch,c_BadRow,c_BadText,x_BadRow,x_BadSet,x_Parted,x_NoTree,x_NoSuch,x_BadText,ki_BadRow_NoSuch,ki_BadRow_NoTree,ki_BadRow_BadSet,ki_BadRow_Parted,ki_BadRow_BadText,ki_BadRow_ValueError,em_BadRow,ki_BadSet_NoSuch,ki_BadSet_NoTree,ki_BadSet_Parted,ki_BadSet_BadText,ki_BadSet_ValueError,em_BadSet,ki_Parted_NoSuch,ki_Parted_NoTree,ki_Parted_BadSet,ki_Parted_BadText,ki_Parted_ValueError,em_Parted,ki_NoTree_NoSuch,ki_NoTree_BadSet,ki_NoTree_Parted,ki_NoTree_BadText,ki_NoTree_ValueError,em_NoTree,ki_NoSuch_NoTree,ki_NoSuch_BadSet,ki_NoSuch_Parted,ki_NoSuch_BadText,ki_NoSuch_ValueError,em_NoSuch,ki_BadText_NoSuch,ki_BadText_NoTree,ki_BadText_BadSet,ki_BadText_Parted,ki_BadText_ValueError,em_BadText⟩:=hX;have T:My.Txt (L2.KOf KX) mg ⟨aZ0,aZ1,aZ2,aZ3,aZ4,aZ5,aZ6,aZ7,aZ8,aZ9,aZa,aZb,aZc,aZd,aZe,aZf,aZg,aZh,aZi,aZj,aZk,aZl,aZm,aZn,aZo,aZp,aZq,aZr,aZs,aZt,aZu,aZv,aZw,aZx,aZy,aZz,aZA,aZB,aZC,aZD,aZE,aZF,aZG,aZH,aZI,aZJ,aZK,aZL,aZM,aZN,aZO,aZP,aZQ,aZR,aZS,aZT,aZU,aZV,aZW,aZX,aZY,aZZ,aZ01,aZ11,aZ21,aZ31,aZ41,aZ51,aZ61,aZ71,aZ81,aZ91,aZa1,aZb1,aZc1,A_Web,A_Desk,A_WebError,A_BadSet,A_Parted,A_NoTree,A_NoSuch,A_BadRow,A_BadText,dZ0,dZ1,dZ2,dZ3,dZ4,dZ5,dZ6,dZ7,dZ8,dZ9,dZa,dZb,dZc,dZd,dZe,dZf,dZg,dZh,dZi,dZj,dZk,dZl,dZm,dZn,dZo,dZp,dZq,dZr,dZs,dZt,dZu,dZv,dZw,dZx,dZy,dZz,dZA,dZB,dZC,dZD,dZE,dZF,dZG,dZH,dZI,dZJ,dZK,dZL,dZM,dZN,dZO,dZP,dZQ,dZR,dZS,dZT,dZU,dZV,dZW,dZX,dZY,dZZ,dZ01,dZ11,dZ21,dZ31,dZ41,dZ51,dZ61,dZ71,dZ81,dZ91,dZa1,dZb1,dZc1⟩:=⟨q_refuse_not_square,q_row_taken_off,q_first_with_some,q_determinant,q_row_without,q_table_without,q_is_tie,q_refuse_bad_web,fZ8,fZ8.binds (λ_ _ _ _ _ _=>My.un3 λ_ _ _=>rfl),q_refuse_bad_row,q_all_ties,q_ties_beside,q_is_set,q_made_set,q_merged_marks,q_piece_marks,q_pieces_of,q_is_joined,q_refuse_parted,q_weighted_table,q_pull_table,q_tree_count,q_part_count,q_is_tree,q_refuse_no_tree,q_grown_tree,q_least_tree,q_tree_at,q_lesser_ties,q_number_of,q_cheapest_web,q_cheapest_tree,q_refuse_below_nought,q_whole_part,q_trees_between,q_number_in,q_row_from,q_row_at,q_row_number,q_row_next,q_fraction,q_share_of,q_ties_text,q_fraction_text,q_answer_alone,q_rank_text,q_answer_of_number,q_next_text,q_answer_of_ties,q_is_number,q_read_number,q_read_line,q_read_web,q_read_ties,q_numbers_text,q_web_text,q_answer_to,fZV,fZV.binds (λ_ _ _ _ _ _=>My.un2 λ_ _=>rfl),fZW,fZW.binds (λ_ _ _ _ _ _=>My.un1 λ_=>rfl),fZX,fZX.binds (λ_ _ _ _ _ _=>My.un1 λ_=>rfl),fZY,fZY.binds (λ_ _ _ _ _ _=>My.un1 λ_=>rfl),fZZ,fZZ.binds (λ_ _ _ _ _ _=>My.un2 λ_ _=>rfl),q_law_cell,q_law_mixed,q_law_draws,q_law_ties,q_law_web,q_law_marks,q_law_all,q_law_lengths,q_law_text,q_law_no_lines,q_law_due_lines,q_law_kinds,q_law,c_Web,cl_Web,k_Web,na_Web _ (by simp),na_Web _ (by simp),c_Desk,cl_Desk,k_Desk,na_Desk _ (by simp),me_Desk_web_now,me_Desk_lengths_now,me_Desk_text,me_Desk_asked,c_WebError,c_BadSet,c_Parted,c_NoTree,c_NoSuch,c_BadRow,c_BadText,x_BadRow,x_BadSet,x_Parted,x_NoTree,x_NoSuch,x_BadText,ki_BadRow_NoSuch,ki_BadRow_NoTree,ki_BadRow_BadSet,ki_BadRow_Parted,ki_BadRow_BadText,ki_BadRow_ValueError,em_BadRow,ki_BadSet_NoSuch,ki_BadSet_NoTree,ki_BadSet_Parted,ki_BadSet_BadText,ki_BadSet_ValueError,em_BadSet,ki_Parted_NoSuch,ki_Parted_NoTree,ki_Parted_BadSet,ki_Parted_BadText,ki_Parted_ValueError,em_Parted,ki_NoTree_NoSuch,ki_NoTree_BadSet,ki_NoTree_Parted,ki_NoTree_BadText,ki_NoTree_ValueError,em_NoTree,ki_NoSuch_NoTree,ki_NoSuch_BadSet,ki_NoSuch_Parted,ki_NoSuch_BadText,ki_NoSuch_ValueError,em_NoSuch,ki_BadText_NoSuch,ki_BadText_NoTree,ki_BadText_BadSet,ki_BadText_Parted,ki_BadText_ValueError,em_BadText,h_ALONE,h_OF_A_NUMBER,h_OF_TIES,h_MOST_PLACES,h_MOST_TIES,h_FIGURES,h_MOST_FIGURES,h_ValueError,h_any,h_enumerate,h_int,h_isinstance,h_len,h_list,h_max,h_min,h_range,h_reversed,h_set,h_sorted,h_str,h_sum,h_tuple,h_zip⟩
  have e0:=hmg.symm.trans q_law.mm;cases e0;exact⟨dZc1,λs u=>My.law_binds q_law.fn s u,λbase _ _=>My.okZc1 T⟩
#print axioms PySem.Challenge.cw_spanrow_k88_lines_refused_holds
