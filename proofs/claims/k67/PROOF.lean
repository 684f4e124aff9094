import PyProof.Rows.All
import Wide.All
import OpenK.AllK
import Wide.FinOn
import Lean
import PyProof.EqAt
import PyProof.EqKinds
import PyProof.TupleCall
import PySem.Challenge.RW_spanrow_k67_whole_lengths_changed
set_option Elab.async false
set_option linter.all false
set_option maxRecDepth 100000
namespace PySem.W.Fast
def tw7227417626626015253:=0
def tw8712697577412341649:=0
def tw575466756470968379:=0
def tw6626872434948218604:=0
def tw14967535154976254407:=0
def tw17460238684897543644:=0
def tw9862503066402924155:=0
def tw10404981044978476981:=0
def tw14892461160574987316:=0
def tw7585075201796126308:=0
def tw7577096684847098141:=0
def tw15730776352608353476:=0
def tw8701863807093338276:=0
def tw3967686731275025357:=0
def tw9782418540215746119:=0
def tw8382677638566058593:=0
def tw1834044263919131885:=0
def tw14871224984835626402:=0
def tw14506109835093244567:=0
def tw10203463656813797235:=0
def tw13032945576990512619:=0
def tw1919645939876091346:=0
def tw17960876586403125080:=0
def tw16655155054467476485:=0
def tw9028087465780724200:=0
def tw7901704220125734543:=0
def tw15512236390357834708:=0
def tw1683338116461843703:=0
def tw5976132909402888572:=0
def tw17782752741702684999:=0
def tw17333951442899778949:=0
def tw13138495597645225713:=0
def tw5637399604254452921:=0
def tw6905916227864905696:=0
def tw14984298598977727723:=0
def tw13248982146186603390:=0
def tw1305459530946037287:=0
def tw11738732139216297183:=0
def tw10493637527292068363:=0
def tw5574118209283338534:=0
def tw17853494544975743674:=0
def tw4271376949963395809:=0
def tw464029600094992467:=0
def tw11550147635041308668:=0
def tw5830695243034638594:=0
def tw11172777071724688909:=0
def tw10746297195384829670:=0
def tw13701216060383180331:=0
def tw7290679199538675010:=0
def tw6965438292433432274:=0
def tw14656298364861309340:=0
def tw9153329674818264577:=0
def tw17332815679287645449:=0
def tw17555022265795303458:=0
def tw6315496927422723912:=0
def tw5488590190844188745:=0
def tw17706927677890777413:=0
def tw17366275914507877132:=0
def tw4429506887670286703:=0
def tw2857036160967706261:=0
def tw10016093977413075539:=0
def tw17604754311568382468:=0
def tw2605046118832314384:=0
def tw3675500578175920186:=0
def tw4895441272743705297:=0
def tw2708197247275486707:=0
def tw12884571315759049667:=0
def tw8529993037451299241:=0
def tw6170917402845902756:=0
def tw15218017328312364032:=0
def tw6634767813823973018:=0
def tw5602365496080642766:=0
def tw737230833798287974:=0
def tw5568291688527085288:=0
def tw10825802705223918718:=0
def tw10652764934114341036:=0
def tw17426007395919069908:=0
def tw5380957939391329288:=0
def tw16853661842980188002:=0
def tw7074483200299146363:=0
def tw5549971785056828881:=0
def tw17481005893085748962:=0
def tw13148125403239373454:=0
def tw4184066501279657461:=0
def tw3139153837804346798:=0
def tw5340965480720401404:=0
def tw15368283163858436145:=0
def tw4966538521429480461:=0
def tw5224833259471698814:=0
def tw1270865037384365954:=0
def tw8810892877199180657:=0
def tw6197854892356902110:=0
def tw299714519306791675:=0
def tw2790071082406731629:=0
def tw3432876698022137437:=0
def tw15473087404815048316:=0
def tw2798699710334900354:=0
def tw16070102677598814469:=0
def tw11269704514071813525:=0
def tw11825859314245625980:=0
def tw15092642805852788429:=0
def tw11360106009396679546:=0
def tw4486039880763157992:=0
def tw15962397445077548583:=0
def tw8131676819748341522:=0
def tw17161982930503177579:=0
def tw9199610321154639736:=0
def tw3843278296442612423:=0
def tw17504941085839224777:=0
def tw12841177411519745186:=0
def tw4390123205966878597:=0
def tw4516414812421517220:=0
def tw13786749296300478568:=0
def tw8436722853963561079:=0
def tw17574115872074265269:=0
def tw10340942515881540754:=0
def tw6693284169869669852:=0
def tw9175359094153561079:=0
def tw8566796865579837061:=0
def tw15145294152431138565:=0
def tw5762903069191211238:=0
def tw7706799983252922894:=0
def tw11849217342592074235:=0
def tw12769121340193529679:=0
def tw1909886963245777689:=0
def tw2702409968044367697:=0
def tw4876504370569159097:=0
def tw829081665470780182:=0
def tw11077396608977679979:=0
def tw4856934350341057272:=0
def tw8869245642765275917:=0
def tw4134174774026051725:=0
def tw3522697675004501524:=0
def tw5116146785267108782:=0
def tw14204081431421884605:=0
def tw9466741958288316409:=0
def tw9328889681073521703:=0
def tw8951588916568133421:=0
def tw16965582583294616580:=0
def tw11754854675054560681:=0
def tw6943629477061432655:=0
def tw10118659424419697601:=0
def tw10596989250220975967:=0
def tw18297344445994301760:=0
def tw6182926998397722208:=0
def tw9267185940293200149:=0
def tw7337408944882898561:=0
def tw656572879358101675:=0
def tw5618716043139766370:=0
def tw15439626729873898402:=0
def tw10689905849215531093:=0
def tw15244095262776217564:=0
def tw1760108773678767885:=0
def tw5338689184608767300:=0
def tw9050659522993696630:=0
def tw10621197279538763106:=0
def tw8163892833761707911:=0
def tw1367362547562463980:=0
def tw266015606549860736:=0
def tw2104175655239504528:=0
def tw820758705025455608:=0
def tw7812739024279187276:=0
def tw2434245537963567701:=0
def tw1704085179501876956:=0
def tw16194125250462239329:=0
def tw15767750282281965996:=0
def tw11355574078648618652:=0
def tw1810139932382840082:=0
def tw14404032981649665981:=0
def tw113554780045861941:=0
def tw11061809340180962984:=0
def tw10849703822222636529:=0
def tw12030660350871114794:=0
def tw6030026325328966693:=0
def tw8805955342845853051:=0
def tw14949606522615894355:=0
def tw12816156264150638902:=0
def tw14313279555909877575:=0
def tw15089247149468540706:=0
def tw431278329558419841:=0
def tw3284360111904522227:=0
def tw3164969438239520441:=0
def tw14025073467031513242:=0
def tw2629207442692986285:=0
def tw13260556709757660061:=0
def tw4622286655412091065:=0
def tw17980417676558236854:=0
def tw7791343729953932154:=0
def tw9352774866333972374:=0
def tw15979027580464843266:=0
def tw7628610657328122694:=0
def tw5250913257169207624:=0
def tw2384496323515154438:=0
def tw18332473964139641338:=0
def tw9180821420027518861:=0
def tw5457931181073564488:=0
def tw16969683534491032176:=0
def tw17315785453191745121:=0
def tw5896839605018329064:=0
def tw10121956542591155206:=0
def tw9743222700050448117:=0
def tw15739359769408749575:=0
def tw2769832635416168617:=0
def tw14689998631689311112:=0
def tw4510564548608383472:=0
def tw814675551216615695:=0
def tw3037416958606987450:=0
def tw2959898882653171879:=0
def tw16616224860703173422:=0
def tw15690755548828165486:=0
def tw14890078833040873510:=0
def tw8585107506796876924:=0
def tw6634612059171999932:=0
def tw4916615654784567205:=0
def tw12350944048989636607:=0
def tw11120951925999757555:=0
def tw3517810508294456045:=0
def tw12763039761829787937:=0
def tw17719926245002936153:=0
def tw1203613800257353839:=0
def tw15418863012451492590:=0
def tw12919748583838611182:=0
def tw15912603450907215135:=0
def tw12061409309661503710:=0
def tw1032712949111732850:=0
def tw5975659891228002673:=0
def tw10886670398718759438:=0
def tw9091750769521426913:=0
def tw4035851390023268789:=0
def tw11399516912136411332:=0
def tw6766076986066703067:=0
def tw9466149580047190736:=0
def tw9559215869414802987:=0
def tw11599404582296360484:=0
def tw11475302294214663278:=0
def tw4274536503019331842:=0
def tw5640381460716473209:=0
def tw12489466361912915352:=0
def tw15947238520023754218:=0
def tw14016493258613166523:=0
def tw7090890939224747287:=0
def tw17625453718374517008:=0
def tw8544864616170659812:=0
def tw8225060638803823169:=0
def tw13304314615861451956:=0
def tw9083219305232800663:=0
def tw15582381361660963929:=0
def tw14653997596751517067:=0
def tw14320964619486073230:=0
def tw11093043401590913686:=0
def tw17120687362707411282:=0
def tw14568844250845611602:=0
def tw4611630905189807574:=0
def tw14236650987510990417:=0
def tw13005107018023489035:=0
def tw9207767996948624575:=0
def tw8513483208721698387:=0
def tw8289389503555565865:=0
def tw6673886219547474532:=0
def tw5664808310892792805:=0
def tw15837411758973783671:=0
def tw12988049751225099294:=0
def tw11310083799625835898:=0
def tw10016796083334183996:=0
def tw6032350491200585635:=0
def tw9777269942995919965:=0
def tw5963935927000909927:=0
def tw2586066913498384282:=0
def tw10498373204823843944:=0
def tw15507199313981289861:=0
def tw10255252848288070033:=0
def tw828015948938101019:=0
def tw12017968553241176188:=0
def tw6229324949541129835:=0
def tw3992871326380630096:=0
def tw18062642029915463522:=0
def tw12827410488309993685:=0
def tw11165424124130829544:=0
def tw8100260422637911615:=0
def tw7568383190369536460:=0
def tw375506502194453718:=0
def tw3666288999306042909:=0
def tw2976707899003349271:=0
def tw2699756868347376445:=0
def tw17191589477058939274:=0
def tw14422021916245836087:=0
def tw10031889668386309363:=0
def tw6779079806704444255:=0
def tw569490310973644235:=0
def tw3242850398131494929:=0
def tw17399500022348926484:=0
def tw1697398748614763907:=0
def tw16587160740781347803:=0
def tw16402404936692948765:=0
def tw15689594110517997490:=0
def tw15618060300468285520:=0
def tw13183076400278632732:=0
def tw262786432082361225:=0
def tw9504919230478564978:=0
def tw3061624615359479268:=0
def tw2365890611390385556:=0
def tw17887425193642587648:=0
def tw15260663706608787178:=0
def tw12252676497769604073:=0
def tw11952299103763138205:=0
def tw9335434023872290759:=0
def tw8650308070571245079:=0
def tw843231015239009703:=0
def tw5127860406374730858:=0
def tw14110775787724855545:=0
def tw13198528312941148573:=0
def tw1067120342514902020:=0
def tw10473128401613142277:=0
def tw10195198187387096563:=0
def tw9997049033438276035:=0
def tw9943530508916433739:=0
def tw9779114740528497524:=0
def tw9548900509661904011:=0
def tw9540968279290656801:=0
def tw9265538120739323762:=0
def tw9061570685389771342:=0
def tw893643466422954210:=0
def tw8742713716118711141:=0
def tw8465066412654066978:=0
def tw8426632259600251651:=0
def tw8407057501950583297:=0
def tw8300346294119890106:=0
def tw7962168062483910590:=0
def tw7839299749189008364:=0
def tw7807616350122297308:=0
def tw7292513676967061291:=0
def tw7154632384205391112:=0
def tw7114480346884124419:=0
def tw7045024013573683509:=0
def tw6893732178382664391:=0
def tw6464379613724107365:=0
def tw5958730872268113383:=0
def tw5681443194226042874:=0
def tw5670997247614589833:=0
def tw5622508882721972200:=0
def tw5390937574871345932:=0
def tw5352896804457808202:=0
def tw5155264717184999294:=0
def tw5124975979816017284:=0
def tw5047401455482494234:=0
def tw409271936578088020:=0
def tw4072628605844984691:=0
def tw3950182310251664221:=0
def tw3932221142394008753:=0
def tw3839430767508660734:=0
def tw3581962347580623604:=0
def tw3531802554389329812:=0
def tw3137331036658577718:=0
def tw3092985965928894810:=0
def tw2794994858876695049:=0
def tw2761175822009788828:=0
def tw2759918074426441739:=0
def tw2620608749245209866:=0
def tw2325533865756258675:=0
def tw2294230403295824668:=0
def tw2289304815908681985:=0
def tw227445842035805871:=0
def tw2267645473906629152:=0
def tw1859814086537105921:=0
def tw18433592593472204138:=0
def tw18369799315866546188:=0
def tw18231905016275756561:=0
def tw18214261411891224608:=0
def tw17964263915428026024:=0
def tw1785890464587493557:=0
def tw17814348988135794647:=0
def tw17714351192960463893:=0
def tw17654597417437132805:=0
def tw17528496687115265848:=0
def tw17252523144156311409:=0
def tw17028797337836741891:=0
def tw1694839525453014447:=0
def tw1683613777700272743:=0
def tw16804816224353305908:=0
def tw1676412726461933838:=0
def tw16762885380095102893:=0
def tw16728662569913309209:=0
def tw16693727317986823360:=0
def tw16601454972333267687:=0
def tw16596239850929635601:=0
def tw16406542300309915644:=0
def tw1618914423383695150:=0
def tw15972069925662383196:=0
def tw15851141967010496254:=0
def tw15177617616734108136:=0
def tw15072273634410680994:=0
def tw14815349674445602568:=0
def tw14353072026584403236:=0
def tw14314570649576465144:=0
def tw14275500063808861452:=0
def tw13790941715916996308:=0
def tw12899658211557387967:=0
def tw12740810460074507862:=0
def tw12609724427554397666:=0
def tw12480236611203816626:=0
def tw12453167058579815149:=0
def tw12141886286721793308:=0
def tw11915334861621840419:=0
def tw11500810292328498311:=0
def tw11327960344222639588:=0
def tw11259370778112948264:=0
def tw11022499892434687999:=0
def tw10823063854728220611:=0
def tw10791485961901724746:=0
def tw10755330082538815050:=0
def tw10709667398377416441:=0
def tw10140759992599462111:=0
end PySem.W.Fast
def Yy0:=@List.getElem?_eq_getElem
def Yy1:=@List.mem_singleton
def Yy2:=@List.getElem?_eq_some_iff
def Yy3:=@List.getD_eq_getElem?_getD
def Yy4:=@PySem.wpAny_bind
def Yy5:=@PySem.Heap.get?_push_of_some
def Yy6:=@List.mem_of_getElem?
def Yy7:=@Nat.le_refl
def Yy8:=@List.length_append
def Yy9:=@List.mem_append
def Ya:=@List.size_toArray
def Yb:=@List.length_map
def Yc:=@Option.some.inj
def Yd:=@List.mem_append_right
def Ye:=@List.mem_cons_self
def Yf:=@Classical.byContradiction
def Yg:=@List.mem_cons_of_mem
def Yh:=@List.mem_cons
def Yi:=@List.mem_filter
def Yj:=@Nat.zero_le
def Yk:=@List.mem_append_left
def Yl:=@decide_eq_true
def Ym:=@List.getElem?_map
def Yn:=@PySem.wpAny_pure
def Yo:=@PySem.Heap.get?_push_size
def Yp:=@PySem.Heap.lt_size
def Yq:=@Nat.lt_of_lt_of_le
def Yr:=@List.mem_map
def Ys:=@Bool.false_ne_true
def Yt:=@of_decide_eq_true
def Yu:=@Nat.ne_of_lt
def Yv:=@Array.getD_eq_getD_getElem?
def Yw:=@Int.toNat_natCast
def Yx:=@List.getElem?_append_left
def Yy:=@List.getElem?_append_right
def Yz:=@List.length_take
def YA:=@List.length_cons
def YB:=@PySem.F.plainAttrs_list
def YC:=@List.length_replicate
def YD:=@List.mem_range
def YE:=@List.map_append
def YF:=@Nat.le_trans
def YG:=@List.take_length
def YH:=@Array.getElem?_eq_getElem
def YI:=@List.map_cons
def YJ:=@decide_eq_true_iff
def YK:=@List.length_eq_zero_iff
def YL:=@List.map_congr_left
def YM:=@List.length_singleton
def YN:=@Array.length_toList
def YO:=@List.take_succ
def QP:=@List.getElem?_eq_none
def YQ:=@PySem.F.type_list_append
def YR:=@PySem.F.slot_list_append
def YS:=@List.append_nil
def YT:=@PySem.PassesOwn.never
def YU:=@PySem.Heap.get?_update_other
def YV:=@Array.getElem?_toList
def YW:=@decide_eq_false
def YX:=@List.length_range
def YY:=@List.pairwise_append
def YZ:=@List.getElem?_of_mem
def Yy00:=@List.pairwise_iff_getElem
def Yy01:=@List.pairwise_cons
def Yy02:=@List.filter_append
def Yy03:=@Ne.symm
def Yy04:=@congrArg
def Yy05:=@List.sum_cons
def Yy06:=@List.nodup_append
def Yy07:=@List.filter_cons
def Yy08:=@Nat.not_lt_zero
def Yy09:=@List.nodup_cons
def Y0a:=@List.length_filter_le
def Y0b:=@List.pairwise_singleton
def Y0c:=@PySem.codeAny_builtin
def Y0d:=@PySem.Heap.get?_update_self
def Y0e:=@PySem.W.mg_none_of
def Y0f:=@List.append_assoc
def Y0g:=@List.take_of_length_le
def Y0h:=@Bool.eq_iff_iff
def Y0i:=@PySem.Obj.data_mapFields
def Y0j:=@List.getElem_mem
def Y0k:=@List.getElem?_range
def Y0l:=@List.all_eq_true
def Y0m:=@Int.mul_assoc
def Y0n:=@PyProof.Rows.callWith_type1
def Y0o:=@List.filter_cons_of_pos
def Y0p:=@List.filter_cons_of_neg
def Y0q:=@Int.emod_lt_of_pos
def Y0r:=@List.perm_ext_iff_of_nodup
def Y0s:=@Nat.lt_succ_self
def Y0t:=@Bool.and_eq_true
def Y0u:=@PySem.Around.under_plainId
def Y0v:=@Int.le_refl
def Y0w:=@Nat.lt_succ_of_lt
def Y0x:=@List.getElem?_set
def Y0y:=@Int.mul_zero
def Y0z:=@Nat.lt_irrefl
def Y0A:=@List.length_set
def Y0B:=@Int.emod_nonneg
def Y0C:=@PySem.Heap.SameBut.update
def Y0D:=@PySem.wpAny_newObj_type
def Y0E:=@Int.one_mul
def Y0F:=@Int.add_zero
def Y0G:=@PySem.wpAny_holding
def Y0H:=@List.ext_getElem?
def Y0I:=@PySem.mem_of_lookup
def Y0J:=@List.replicate_succ
def Y0K:=@Nat.ne_of_gt
def Y0L:=@List.nil_append
def Y0M:=@PySem.sizeLine_eq
def Y0N:=@List.getElem?_zipWith
def Y0O:=@PySem.wpAny_mono
def Y0P:=@Nat.le_succ
def Y0Q:=@List.lookup_cons
def Y0R:=@List.mem_of_mem_take
def Y0S:=@List.length_eraseIdx
def Y0T:=@Int.mul_comm
def Y0U:=@PySem.wpAny_Call_Name_kw
def Y0V:=@List.pairwise_map
def Y0W:=@List.range_succ
def Y0X:=@List.getElem?_replicate
def Y0Y:=@List.filter_eq_self
def Y0Z:=@PySem.Heap.size_push
def Yy10:=@PySem.wpAny_truthy_bool
def Yy11:=@List.pairwise_lt_range
def Yy12:=@List.drop_eq_nil_of_le
def Yy13:=@PySem.wpAny_loadPart'
def Yy14:=@PySem.wpAny_call_entry
def Yy15:=@PySem.plainId_quiet
def Yy16:=@beq_iff_eq
def Yy17:=@List.length_nil
def Yy18:=@List.filter_nil
def Yy19:=@PySem.F.plain_min_loop
def Y1a:=@Array.perm_iff_toList_perm
def Y1b:=@List.filter_congr
def Y1c:=@PySem.SeqAt.EqAt.int_int
def Y1d:=@Nat.succ.inj
def Y1e:=@Nat.sub_self
def Y1f:=@PySem.wpAny_passesOwn
def Y1g:=@beq_eq_false_iff_ne
def Y1h:=@Nat.mul_le_mul
def Y1i:=@List.mem_flatMap
def Y1j:=@List.length_zipWith
def Y1k:=@List.eq_of_mem_replicate
def Y1l:=@PySem.wpAny_setState_of
def Y1m:=@Nat.zero_add
def Y1n:=@Int.mul_one
def Y1o:=@PySem.wpAny_setEntries_of
def Y1p:=@PySem.wpAny_askSetting
def Y1q:=@Array.getElem?_eq_none
def Y1r:=@List.take_sublist
def Y1s:=@List.foldl_append
def Y1t:=@List.flatten_cons
def Y1u:=@List.eq_nil_iff_forall_not_mem
def Y1v:=@PySem.wpAny_callSpecial?_slot
def Y1w:=@PySem.wpAny_of_eq
def Y1x:=@PySem.codeAny_mono
def Y1y:=@PySem.F.called_set
def Y1z:=@Nat.le_of_not_lt
def Y1A:=@Nat.le_of_lt
def Y1B:=@List.map_map
def Y1C:=@List.cons_append
def Y1D:=@Int.pow_zero
def Y1E:=@PySem.builtinLookup_eq_fast
def Y1F:=@PySem.Obj.isFreed_of_fields
def Y1G:=@List.map_eq_nil_iff
def Y1H:=@List.filterMap_cons
def Y1I:=@PySem.wpAny_setField
def Y1J:=@and_congr_right
def Y1K:=@Int.mul_add
def Y1L:=@PyProof.Rows.listUpdate_at
def Y1M:=@PySem.F.type_list_extend
def Y1N:=@PySem.F.slot_list_extend
def Y1O:=@PySem.F.args_tuple_add_2
def Y1P:=@Option.isSome_iff_exists
def Y1Q:=@List.length_erase_of_mem
def Y1R:=@List.Pairwise.imp_of_mem
def Y1S:=@Int.zero_add
def Y1T:=@PySem.wpAny_newList
def Y1U:=@decide_eq_true_eq
def Y1V:=@Int.mul_left_comm
def Y1W:=@PySem.F.entry_tuple_add
def Y1X:=@decide_eq_decide
def Y1Y:=@PySem.SeqAt.EqAt.of_refs
def Y1Z:=@PySem.F.slot_tuple_add
def Yy20:=@Option.map_eq_some_iff
def Yy21:=@List.length_pos_of_mem
def Yy22:=@List.getElem?_set_self
def Yy23:=@List.getElem?_eraseIdx
def Yy24:=@List.filter_eq_nil_iff
def Yy25:=@List.any_cons
def Yy26:=@PySem.Code.quiet_builtin
def Yy27:=@PySem.wpAny_seqItems
def Yy28:=@PySem.wpAny_pyIter_list
def Yy29:=@List.foldl_cons
def Y2a:=@List.find?_cons
def Y2b:=@List.mem_iff_getElem
def Y2c:=@List.mem_erase_of_ne
def Y2d:=@List.getElem?_set_ne
def Y2e:=@Int.zero_mul
def Y2f:=@Int.pow_succ
def Y2g:=@PySem.wpAny_attempt
def Y2h:=@PySem.call_meets
def Y2i:=@List.getElem_of_mem
def Y2j:=@Nat.lt_of_le_of_lt
def Y2k:=@Nat.add_sub_cancel
def Y2l:=@List.map_singleton
def Y2m:=@List.getElem?_take
def Y2n:=@Bool.false_eq_true
def Y2o:=@PySem.wpAny_updateSeq
def Y2p:=@PySem.wpAny_execs_nil
def Y2q:=@PySem.typeLookup_type
def Y2r:=@PySem.SeqAt.EqAt.same
def Y2s:=@PySem.W.mg_of
def Y2t:=@List.eraseIdx_eq_take_drop_succ
def Y2u:=@PyProof.Rows.callWith_builtin1
def Y2v:=@List.mem_eraseIdx_iff_getElem?
def Y2w:=@Int.lt_trichotomy
def Y2x:=@Bool.eq_false_iff
def Y2y:=@Array.toList_push
def Y2z:=@List.take_append_of_le_length
def Y2A:=@List.exists_mem_of_length_pos
def Y2B:=@PyProof.Rows.F.plain_set_update_loop
def Y2C:=@PySem.wpAny_tryCatch
def Y2D:=@PySem.wpAny_runValue
def Y2E:=@PySem.wpAny_fieldsOf
def Y2F:=@beq_self_eq_true
def Y2G:=@PySem.F.slot_dict_setdefault
def Y2H:=@List.length_drop
def Y2I:=@List.dropLast_concat_getLast
def Y2J:=@List.any_eq_true
def Y2K:=@Int.sub_zero
def Y2L:=@Int.min_eq_right
def Y2M:=@PySem.wpAny_letGo
def Y2N:=@beq_false_of_ne
def Y2O:=@Option.map_some
def Y2P:=@Nat.le_antisymm
def Y2Q:=@List.of_mem_zip
def Y2R:=@List.length_eraseIdx_of_lt
def Y2S:=@Int.min_eq_left
def Y2T:=@List.getElem?_eq_none_iff
def Y2U:=@List.drop_eq_getElem_cons
def Y2V:=@Int.neg_mul
def Y2W:=@Int.eq_of_mul_eq_mul_left
def Y2X:=@Int.add_mul
def Y2Y:=@PyProof.Rows.get?_update_seq
def Y2Z:=@PySem.F.slot_dict_values
def Yy30:=@PySem.Obj.cls_mapFields
def Yy31:=@List.mem_of_mem_eraseIdx
def Yy32:=@Int.natAbs_mul
def Yy33:=@PyProof.Rows.entry_proto_collect'
def Yy34:=@PySem.F.plainAttrs_dict
def Yy35:=@PySem.F.args_tuple_lt_2
def Yy36:=@PySem.wpAny_typeOf
def Yy37:=@PySem.wpAny_load
def Yy38:=@PySem.wpAny_isInstance
def Yy39:=@PySem.noFill_tuple_add
def Y3a:=@PySem.W.cellsFrom_some
def Y3b:=@PySem.F.entry_tuple_lt
def Y3c:=@PySem.F.entry_min_loop
def Y3d:=@Bool.and_true
def Y3e:=@PySem.F.slot_tuple_lt
def Y3f:=@List.getElem?_toArray
def Y3g:=@List.Pairwise.sublist
/-! THE HAND LAYER,for ints,bools,texts,own classes,LISTS and tuples (index,slices,in,append,pop ..),calls,loops. Paste it whole ahead of your own text;what your proof does not reach may be deleted. -/
namespace L2
open PySem PySem.Spec PyProof.Rows
abbrev Key:=Sum Int Str
def Zt10:Key->Value->Bool
 | .inl k,v=>Value.isInt k v
 | .inr x,v=>Value.isStrOf x v
def keyH(w:World):Key->Int
 | .inl k=>hashInt k
 | .inr x=>hashStr w x
theorem ZE:∀ {k:Key} {v:Value},Zt10 k v=true->(∃ i t,k=Sum.inl i/\v=Value.int i t)\/(∃ x t,k=Sum.inr x/\v=Value.str x t)
 | .inl i,v,h=>by obtain⟨t,e⟩:=Value.isInt_shape (k:=i) (v:=v) h;exact .inl ⟨i,t,rfl,e⟩
 | .inr x,v,h=>by obtain⟨t,e⟩:=Value.isStrOf_shape (x:=x) (v:=v) h;exact .inr ⟨x,t,rfl,e⟩
theorem ZC7(i:Int)(t:Tok):Zt10 (.inl i) (.int i t)=true:=by simp[Zt10,Value.isInt]
theorem ZB7(x:Str)(t:Tok):Zt10 (.inr x) (.str x t)=true:=by simp[Zt10,Value.isStrOf]
theorem Zz113(a b:Int):decide ((Sum.inl a:Key)=Sum.inl b)=(a == b):=by
 by_cases e:a=b
 ·subst e;simp
 ·have h:¬ (Sum.inl a:Key)=Sum.inl b:=fun q=>e (Sum.inl.inj q);rw[YW h];exact(Y1g.mpr e).symm
theorem ZY12(a b:Str):decide ((Sum.inr a:Key)=Sum.inr b)=decide (a=b):=by
 by_cases e:a=b
 ·subst e;simp
 ·have h:¬ (Sum.inr a:Key)=Sum.inr b:=fun q=>e (Sum.inr.inj q);rw[YW h,YW e]
theorem Zz013(a:Int)(b:Str):decide ((Sum.inl a:Key)=Sum.inr b)=false:=YW (fun q=>nomatch q)
theorem ZZ12(a:Str)(b:Int):decide ((Sum.inr a:Key)=Sum.inl b)=false:=YW (fun q=>nomatch q)
def Zz91(prog:Program)(w:World):PySem.KeyKind prog w Key where
 is:=Zt10
 hash:=keyH w
 inj:=fun v a b ha hb=>by
  rcases ZE ha with ⟨i,t,rfl,rfl⟩ | ⟨x,t,rfl,rfl⟩
  ·rcases ZE hb with ⟨j,u,rfl,e⟩ | ⟨y,u,rfl,e⟩
   ·injection e with e1 _;rw[e1]
   ·exact nomatch e
  ·rcases ZE hb with ⟨j,u,rfl,e⟩ | ⟨y,u,rfl,e⟩
   ·exact nomatch e
   ·injection e with e1 _;rw[e1]
 byValue:=fun k v h=>by rcases ZE h with ⟨i,t,rfl,rfl⟩ | ⟨x,t,rfl,rfl⟩ <;> rfl
 pyHash:=fun hv h=>by
  rcases ZE hv with ⟨i,t,rfl,rfl⟩ | ⟨x,t,rfl,rfl⟩
  ·exact wpAny_pyHash_int h
  ·exact wpAny_pyHash_str h
 eqBool:=fun hu hv h=>by
  rcases ZE hu with ⟨i,t,rfl,rfl⟩ | ⟨x,t,rfl,rfl⟩
  ·rcases ZE hv with ⟨j,u,rfl,rfl⟩ | ⟨y,u,rfl,rfl⟩
   ·rw[Zz113]at h;exact wpAny_eqBool_int h
   ·rw[Zz013]at h;exact SeqAt.EqAt.int_str i t y u _ _ _ _ h
  ·rcases ZE hv with ⟨j,u,rfl,rfl⟩ | ⟨y,u,rfl,rfl⟩
   ·rw[ZZ12]at h;exact SeqAt.EqAt.str_int x t j u _ _ _ _ h
   ·rw[ZY12]at h;exact wpAny_eqBool_str h
 «strs»:=fun k x t v h=>by
  rcases ZE h with ⟨i,u,rfl,e⟩ | ⟨y,u,rfl,e⟩
  ·exact nomatch e
  ·injection e with e1 _;subst e1;cases v <;> rfl
theorem Zf5(prog:Program)(w:World)(i:Int)(t:Tok):(Zz91 prog w).is (.inl i) (.int i t)=true:=ZC7 i t
theorem Ze5(prog:Program)(w:World)(x:Str)(t:Tok):(Zz91 prog w).is (.inr x) (.str x t)=true:=ZB7 x t
inductive V where
 | non | bl (b:Bool) | int (i:Int) | str (x:Str) | byt (b:Array UInt8) | flt (b:UInt64) | ref (a:Addr) | ty (n:String)
 deriving DecidableEq
def RelV:V->Value->Prop
 | .non,u=>u=Value.none
 | .bl b,u=>u=Value.bool b
 | .int i,u=>∃ t,u=Value.int i t
 | .str x,u=>∃ t,u=Value.str x t
 | .byt b,u=>∃ t,u=Value.bytes b t
 | .flt b,u=>∃ t,u=Value.float b t
 | .ref a,u=>u=Value.ref a
 | .ty n,u=>u=Value.type n
abbrev Vals:List V->List Value->Prop:=Paired RelV
theorem Vals.length{xs:List V}{us:List Value}(r:Vals xs us):xs.length=us.length:=Paired.length r
theorem Vals.get:∀ {xs:List V} {us:List Value} {i:Nat} {x:V},Vals xs us->xs[i]?=some x->∃ u,us[i]?=some u/\RelV x u
 | _,_,_,_,.nil,e=>by simp at e
 | _,_,0,_,.cons r _,e=>by simp at e;subst e;exact⟨_,rfl,r⟩
 | _,_,i+1,x,.cons _ t,e=>by obtain⟨u,h1,h2⟩:=Vals.get (i:=i) (x:=x) t (by simpa using e);exact⟨u,by simpa using h1,h2⟩
theorem Vals.set{x:V}{u:Value}(r:RelV x u):∀ {xs:List V} {us:List Value} (i:Nat),Vals xs us->Vals (xs.set i x) (us.set i u)
 | _,_,_,.nil=>.nil
 | _,_,0,.cons _ t=>.cons r t
 | _,_,i+1,.cons q t=>.cons q (Vals.set r i t)
theorem Vals.append:∀ {xs ys:List V} {us ws:List Value},Vals xs us->Vals ys ws->Vals (xs++ys) (us++ws)
 | _,_,_,_,.nil,s=>s
 | _,_,_,_,.cons r t,s=>.cons r (Vals.append t s)
theorem Vals.take:∀ {xs:List V} {us:List Value} (n:Nat),Vals xs us->Vals (xs.take n) (us.take n)
 | _,_,0,_=>.nil
 | _,_,_+1,.nil=>.nil
 | _,_,n+1,.cons r t=>.cons r (Vals.take n t)
theorem Vals.drop:∀ {xs:List V} {us:List Value} (n:Nat),Vals xs us->Vals (xs.drop n) (us.drop n)
 | _,_,0,r=>r
 | _,_,_+1,.nil=>.nil
 | _,_,n+1,.cons _ t=>Vals.drop n t
def RelO:Option V->Option Value->Prop
 | some v,some u=>RelV v u
 | none,none=>True
 | _,_=>False
def KV{κ:Type}:List (κ × V)->List (κ × Value)->Prop:=Paired fun(p:κ × V) (q:κ × Value)=>p.1=q.1/\RelV p.2 q.2
def kV:Key->V
 | .inl i=>.int i
 | .inr x=>.str x
inductive HO where
 | lst (xs:List V)
 | tup (xs:List V)
 | dK (kvs:List (Key × V)) | dT (kvs:List (List Key × V))
 | set (S:Int->Bool) (n:Nat)
 | ins (C dx:Addr) (fs:List (Str × V))
 | own (x:Addr)
 | xd (fs:List (Str × V))
 | met (f x:Addr)
 | rng (lo hi:Int)
 | frz (o:Obj) (u:HO)
 | tbl (ps:Array Value)
 | ext (φ:Heap->Prop)
abbrev Hp:=Addr->Option HO
def upd(H:Hp)(a:Addr)(o:HO):Hp:=fun b=>if b=a then some o else H b
theorem Zz1{H:Hp}{a:Addr}{o:HO}:upd H a o a=some o:=by unfold upd;rw[if_pos rfl]
theorem Zc{H:Hp}{a b:Addr}{o:HO}(h:b≠a):upd H a o b=H b:=by unfold upd;rw[if_neg h]
theorem Zr3{H:Hp}{a b:Addr}{o u:HO}(h:H a=some o)(h':H b=some u)(d:o≠u):a≠b:=by intro e;subst e;rw[h]at h';exact d (Yc h')
theorem Zb{H:Hp}{a b:Addr}{o:HO}(h:H a=some o)(h':H b=none):a≠b:=by intro e;subst e;rw[h]at h';cases h'
section
variable(P:Program)(w:World)
def ObjOk(H:Hp)(h:Heap)(a:Addr):HO->Prop
 | .lst xs=>xs.length<=sizeLine/\∃(its:List Value) (n:Nat),Vals xs its/\h.get? a=some { cls:=.type "list",data:=.seq its.toArray n }
 | .tup xs=>xs.length<=sizeLine/\∃ its:List Value,Vals xs its/\IsTup h a its.toArray
 | .dK kvs=>kvs.length<=sizeLine/\(a == sysModules)=false/\∃ vs,KV kvs vs/\h.DictOf (Zz91 P w) a vs
 | .dT kvs=>kvs.length<=sizeLine/\(a == sysModules)=false/\∃ xs:List (List Key × Addr × Value),
   Paired (fun(p:List Key × V) (q:List Key × Addr × Value)=>p.1=q.1/\H q.2.1=some (.tup (p.1.map kV))/\RelV p.2 q.2.2) kvs xs /\
   ∃ o es ep,h.get? a=some o/\o.ExactDict/\o.data=.dict es ep/\es.toList=xs.map (entryOfKey (tupleKind (Zz91 P w)))/\(xs.map (·.1)).Nodup
 | .set S n=>h.SetOf (intKind P w) a S n
 | .ins C dx fs=>H dx=some (.own a)/\fs.length<=1000/\dx≠a/\h.get? a=some (PySem.W.instObj C dx) /\
   ∃ mA,h.Ns1 dx mA/\(∀ f,RelO (fs.lookup f) (mA f))/\PySem.Within mA (fs.map (·.1))
 | .own _=>∃ o,h.get? a=some o
 | .xd fs=>∃ mA,h.Ns1 a mA/\∀ f,RelO (fs.lookup f) (mA f)
 | .rng lo hi=>∃ t u v,h.get? a=some { cls:=.type "range",data:=.fields #[.int lo t,.int hi u,.int 1 v] }
 | .frz o u=>h.get? a=some o/\ObjOk H h a u
 | .tbl ps=>h.get? a=some { cls:=.none,data:=.fields ps }
 | .met f x=>h.get? a=some (PySem.W.methodObj (.ref f) (.ref x))
 | .ext φ=>φ h/\(∃ o,h.get? a=some o)/\∀ h1 h2:Heap,φ h1->(∀ o,h1.get? a=some o->h2.get? a=some o)->φ h2
def HOk(H:Hp)(h:Heap):Prop:=∀ a o,H a=some o->ObjOk P w H h a o
end
section
variable{P:Program}{w:World}{H H':Hp}{h h':Heap}{a:Addr}{o:HO}
theorem ObjOk.lt(x:ObjOk P w H h a o):a<h.objs.size:=by
 cases o with
 | lst xs=>obtain⟨_,_,_,_,e⟩:=x;exact Yp e
 | tup xs=>obtain⟨_,_,_,p⟩:=x;exact p.lt
 | dK kvs=>obtain⟨_,_,_,_,o,_,_,e,_⟩:=x;exact Yp e
 | dT kvs=>obtain⟨_,_,_,_,o,_,_,e,_⟩:=x;exact Yp e
 | set S n=>obtain⟨o,_,_,_,e,_⟩:=x;exact Yp e
 | ins C dx fs=>obtain⟨_,_,_,e,_⟩:=x;exact Yp e
 | own y=>obtain⟨_,e⟩:=x;exact Yp e
 | xd fs=>obtain⟨_,⟨_,_,_,e,_⟩,_⟩:=x;exact Yp e
 | rng lo hi=>obtain⟨_,_,_,e⟩:=x;exact Yp e
 | frz ob u=>obtain⟨e,_⟩:=x;exact Yp e
 | tbl ps=>exact Yp (show h.get? a=some _ from x)
 | met f y=>exact Yp (show h.get? a=some _ from x)
 | ext φ=>obtain⟨_,⟨_,e⟩,_⟩:=x;exact Yp e
theorem Paired.mapP{α β:Type}{F G:α->β->Prop}:∀ {l₁:List α} {l₂:List β},Paired F l₁ l₂->(∀ a b,F a b->G a b)->Paired G l₁ l₂
 | _,_,.nil,_=>.nil
 | _,_,.cons r t,f=>.cons (f _ _ r) (Paired.mapP t f)
theorem ObjOk.stay(x:ObjOk P w H h a o)(k:∀ b u,(b=a\/H b=some (.own a))->h.get? b=some u->h'.get? b=some u)
  (ho:∀ b,H b=some (.own a)->H' b=some (.own a)) (ht:∀ b xs,H b=some (.tup xs)->H' b=some (.tup xs)):ObjOk P w H' h' a o:=by
 induction o with
 | lst xs=>obtain⟨z,its,n,r,e⟩:=x;exact⟨z,its,n,r,k _ _ (.inl rfl) e⟩
 | tup xs=>obtain⟨z,its,r,ob,e,c⟩:=x;exact⟨z,its,r,ob,k _ _ (.inl rfl) e,c⟩
 | dK kvs=>obtain⟨z,y,vs,r,ob,es,ep,e,c⟩:=x;exact⟨z,y,vs,r,ob,es,ep,k _ _ (.inl rfl) e,c⟩
 | dT kvs =>
  obtain⟨z,y,xs,r,ob,es,ep,e,c⟩:=x;exact⟨z,y,xs,Paired.mapP r fun p q z=>⟨z.1,ht _ _ z.2.1,z.2.2⟩,ob,es,ep,k _ _ (.inl rfl) e,c⟩
 | set S n=>obtain⟨ob,es,ep,t,e,c⟩:=x;exact⟨ob,es,ep,t,k _ _ (.inl rfl) e,c⟩
 | ins C dx fs =>
  obtain⟨d,z,ne,e,mA,⟨od,es,ep,e2,c⟩,r⟩:=x;exact⟨ho _ d,z,ne,k _ _ (.inl rfl) e,mA,⟨od,es,ep,k _ _ (.inr d) e2,c⟩,r⟩
 | own y=>obtain⟨ob,e⟩:=x;exact⟨ob,k _ _ (.inl rfl) e⟩
 | xd fs=>obtain⟨mA,⟨od,es,ep,e,c⟩,r⟩:=x;exact⟨mA,⟨od,es,ep,k _ _ (.inl rfl) e,c⟩,r⟩
 | rng lo hi=>obtain⟨t,u,v,e⟩:=x;exact⟨t,u,v,k _ _ (.inl rfl) e⟩
 | frz ob u ih=>obtain⟨e,q⟩:=x;exact⟨k _ _ (.inl rfl) e,ih q⟩
 | tbl ps =>
  have e:h.get? a=some { cls:=.none,data:=.fields ps }:=x;show h'.get? a=some { cls:=.none,data:=.fields ps }
  exact k a _ (.inl rfl) e
 | met f y =>
  have e:h.get? a=some (PySem.W.methodObj (.ref f) (.ref y)):=x;show h'.get? a=some (PySem.W.methodObj (.ref f) (.ref y))
  exact k a _ (.inl rfl) e
 | ext φ=>obtain⟨p,⟨o,e⟩,st⟩:=x;exact⟨st _ _ p fun o q=>k _ _ (.inl rfl) q,⟨o,k _ _ (.inl rfl) e⟩,st⟩
theorem HOk.lt(x:HOk P w H h)(e:H a=some o):a<h.objs.size:=(x a o e).lt
theorem HOk.fresh(x:HOk P w H h)(e:h.objs.size<=a):H a=none:=by
 cases q:H a with
 | none=>rfl
 | some u=>exact absurd (Yq (x.lt q) e) (Y0z _)
theorem HOk.kept(x:HOk P w H h)(k:∀ b u,h.get? b=some u->h'.get? b=some u):HOk P w H h':=fun a o e =>
 (x a o e).stay (fun b u _ q=>k b u q) (fun _ q=>q) fun _ _ q=>q
theorem HOk.laid(x:HOk P w H h)(k:∀ b u,h.get? b=some u->h'.get? b=some u)(hp:h.objs.size<=a)(new:ObjOk P w (upd H a o) h' a o):HOk P w (upd H a o) h':=fun b u e=>by
 have hn:=x.fresh hp;by_cases hb:b=a
 ·subst hb;rw[Zz1]at e;cases e;exact new
 ·rw[Zc hb]at e;exact(x b u e).stay (fun c v _ q=>k c v q) (fun c q=>by rw[Zc (Zb q hn)];exact q) fun c xs q=>by rw[Zc (Zb q hn)];exact q
end
def Rd(H:Hp)(a:Addr)(u:HO):Prop:=H a=some u\/∃ o,H a=some (.frz o u)
theorem Rd.ok{P:Program}{w:World}{H:Hp}{h:Heap}{a:Addr}{u:HO}(r:Rd H a u)(x:HOk P w H h):ObjOk P w H h a u:=by
 rcases r with r | ⟨o,r⟩
 ·exact x a u r
 ·obtain⟨_,q⟩:=x a _ r;exact q
def Mut:Option HO->Prop
 | some (.lst _)=>True
 | some (.dK _)=>True
 | some (.dT _)=>True
 | some (.set _ _)=>True
 | some (.ins _ _ _)=>True
 | some (.ext _)=>True
 | _=>False
section
variable{P:Program}{w:World}{H:Hp}{h h':Heap}{x e:Addr}{o':HO}
theorem HOk.write(ok:HOk P w H h)(mu:Mut (H x))(he:e=x\/H e=some (.own x))(k:∀ b u,b≠e->h.get? b=some u->h'.get? b=some u)(heo:∃ u,h'.get? e=some u)
  (new:ObjOk P w (upd H x o') h' x o'):HOk P w (upd H x o') h':=fun b u q=>by
 have nown:∀ c y,H c=some (.own y)->c≠x:=fun c y r z=>by subst z;rw[r]at mu;exact mu
 have ntup:∀ c xs,H c=some (.tup xs)->c≠x:=fun c xs r z=>by subst z;rw[r]at mu;exact mu
 by_cases hb:b=x
 ·subst hb;rw[Zz1]at q;cases q;exact new
 ·rw[Zc hb]at q;by_cases hbe:b=e
  ·have q':H b=some (.own x):=by
    rcases he with z | z
    ·exact absurd (hbe.trans z) hb
    ·rw[hbe];exact z
   rw[q]at q';cases q';obtain⟨v,hv⟩:=heo;exact⟨v,by rw[hbe];exact hv⟩
  ·refine(ok b u q).stay (fun c v hc r=>k c v ?_ r) (fun c r=>by rw[Zc (nown c b r)];exact r) fun c xs r=>by rw[Zc (ntup c xs r)];exact r
   rcases hc with rfl | hc
   ·exact hbe
   ·rintro rfl;rcases he with z | z
    ·exact nown c b hc z
    ·rw[hc]at z;cases z;exact hb rfl
end
structure Un (fs ex:List Addr) (H H':Hp) (h h':Heap):Prop where
 keep:∀ b o,h.get? b=some o->H b=none->b∉fs->b∉ex->h'.get? b=some o
 slot:∀ b o,h.get? b=some o->H b=none->b∈fs->b∉ex->∃ sl,h'.get? b=some { o with slots:=sl }
 free:∀ b o,h.get? b=some o->H b=none->b∉ex->H' b=none
 there:∀ b o,h.get? b=some o->b∉ex->∃ o',h'.get? b=some o'
 tups:∀ b xs,H b=some (.tup xs)->H' b=some (.tup xs)
 frzs:∀ b o u,H b=some (.frz o u)->H' b=some (.frz o u)
 tbls:∀ b ps,H b=some (.tbl ps)->∃ more,H' b=some (.tbl (ps++more))
section
variable{fs ex:List Addr}{H H1:Hp}{h h1 h':Heap}{a x e:Addr}{o:HO}
theorem Un.any(u:Un fs ex H H1 h h1){b:Addr}{ob:Obj}(q:h.get? b=some ob)(n:H b=none)(hx:b∉ex):∃ sl,h1.get? b=some { ob with slots:=sl }:=by
 by_cases hb:b∈fs
 ·exact u.slot b ob q n hb hx
 ·exact⟨ob.slots,u.keep b ob q n hb hx⟩
theorem Un.kept(k:∀ b u,h.get? b=some u->h'.get? b=some u):Un fs ex H H h h' :=
 ⟨fun b ob q _ _ _=>k b ob q,fun b ob q _ _ _=>⟨ob.slots,k b ob q⟩,fun _ _ _ n _=>n,fun b ob q _=>⟨ob,k b ob q⟩,fun _ _ q=>q,fun _ _ _ q=>q,fun _ ps q=>⟨#[],by rw[q];simp⟩⟩
theorem Un.refl:Un fs ex H H h h:=Un.kept fun _ _ q=>q
theorem Un.laid(k:∀ b u,h.get? b=some u->h'.get? b=some u)(hp:h.objs.size<=a)(hn:H a=none):Un fs ex H (upd H a o) h h' where
 keep:=fun b u q _ _ _=>k b u q
 slot:=fun b u q _ _ _=>⟨u.slots,k b u q⟩
 free:=fun b u q n _=>by rw[Zc (Yu (Yq (Yp q) hp))];exact n
 there:=fun b u q _=>⟨u,k b u q⟩
 tups:=fun b xs q=>by rw[Zc (Zb q hn)];exact q
 frzs:=fun b u xs q=>by rw[Zc (Zb q hn)];exact q
 tbls:=fun b ps q=>⟨#[],by rw[Zc (Zb q hn),q];simp⟩
theorem Un.write(mu:Mut (H x))(he:e=x\/H e=some (.own x))(k:∀ b u,b≠e->h.get? b=some u->h'.get? b=some u)(heo:∃ u,h'.get? e=some u):Un fs ex H (upd H x o) h h':=by
 have hx:∀ b,H b=none->b≠x:=fun b n z=>by subst z;rw[n]at mu;exact mu
 have hb:∀ b,H b=none->b≠e:=fun b n z=>by
  subst z;rcases he with r | r
  ·exact hx b n r
  ·rw[n]at r;cases r
 have hm:∀ b u,H b=some u->¬ Mut (some u)->b≠x:=fun b u q nm z=>by subst z;rw[q]at mu;exact nm mu
 refine⟨fun b u q n _ _=>k b u (hb b n) q,fun b u q n _ _=>⟨u.slots,k b u (hb b n) q⟩,fun b u q n _=>by rw[Zc (hx b n)];exact n,fun b u q _=>?_,
  fun b xs q=>by rw[Zc (hm b _ q fun z=>z)];exact q,fun b u xs q=>by rw[Zc (hm b _ q fun z=>z)];exact q,fun b ps q=>⟨#[],by rw[Zc (hm b _ q fun z=>z),q];simp⟩⟩
 by_cases hbe:b=e
 ·subst hbe;exact heo
 ·exact⟨u,k b u hbe q⟩
end
def trk(h:Heap)(H:Hp):List Addr:=(List.range h.objs.size).filter fun a=>(H a).isSome
def hidT(h:Heap)(H:Hp):Heap:=PySem.W.hideAll h (trk h H)
theorem ZH7(h:Heap)(H:Hp):(hidT h H).objs.size=h.objs.size:=PySem.W.hideAll_size _ _
theorem ZP9{h:Heap}{H:Hp}{b:Addr}{o:Obj}(e:h.get? b=some o)(n:H b=none):(hidT h H).get? b=some o :=
 PySem.W.hideAll_get _ e fun hm=>by have q:(H b).isSome=true:=(Yi.mp hm).2;rw[n]at q;simp at q
theorem Zh11{h:Heap}{H:Hp}{b:Addr}{o:Obj}(e:(hidT h H).get? b=some o):h.get? b=some o/\H b=none:=by
 have e':h.get? b=some o:=PySem.W.of_hideAll (trk h H) e;refine⟨e',?_⟩;cases q:H b with
 | none=>rfl
 | some x =>
  have hm:b∈trk h H:=Yi.mpr ⟨YD.mpr (Yp e'),by simp[q]⟩;have z:(hidT h H).get? b=none:=PySem.W.hideAll_none (trk h H) hm
  rw[z]at e;cases e
def Zd12(g h:Heap)(L:Addr):List (Addr × Obj):=(List.range h.objs.size).filterMap fun a=>if a=L\/(g.get? a).isSome=true then none else (h.get? a).map fun o=>(a,o)
def rest(g h:Heap)(L d:Addr):List (Addr × Obj):=(Zd12 g h L).filter fun p=>decide (p.1≠d)
structure Mod (K:PySem.W.Frag) (mg:Str->Option Value) (base:Heap):Prop where
 kin:K.In base
 glob:base.Ns mainGlobals mg
 blt:∃ mb,base.Ns builtinsNs mb/\∀ x:Str,x≠"__name__"->mb x=bootBuiltins x
 nolimit:base.NoLimit
structure Cx where
 prog:Program
 w:World
 K:PySem.W.Frag
 mg:Str->Option Value
 base:Heap
 A:Around
 N:List Str
 s₀:Shared
 H₀:Hp
 env:Env
 outer:List Env
 stack:List Env
 ex:List Addr
 fn:Str->Bool
 calm:Bool
 pn:List (Addr × Obj)
 xe:Value->Shared->Prop
def frs(l:List Env):List Addr:=l.filterMap (·.frame)
abbrev Cx.fs(X:Cx):List Addr:=frs X.outer
def Vis(sc:Scope)(x:Str):Prop:=sc.names.lookup x=some .local\/sc.names.lookup x=some .cell\/sc.names.lookup x=some .free
def Loc(sc:Scope)(x:Str):Prop:=sc.names.lookup x=some .local\/sc.names.lookup x=some .cell
def Look(env:Env)(h:Heap)(m:Str->Option Value)(x:Str)(u:Value):Prop :=
 (env.kindOf x=some .local/\m x=some u)\/((env.kindOf x=some .cell\/env.kindOf x=some .free)/\∃ c,env.cells.lookup x=some c/\h.IsCell c (some u))
structure Cx.Ok (X:Cx):Prop where
 mod:Mod X.K X.mg X.base
 kind:X.env.scope.kind=.function
 glob:X.env.globals=mainGlobals
 blt:X.env.builtins=builtinsNs
 above:X.s₀.heap.objs.size<=X.env.locals
 inj:∀ x y c,X.env.cells.lookup x=some c->X.env.cells.lookup y=some c->x=y
 has:∀ x,(X.env.kindOf x=some .cell\/X.env.kindOf x=some .free)->∃ c,X.env.cells.lookup x=some c
 cab:∀ x c,X.fn x=true->X.env.cells.lookup x=some c->X.s₀.heap.objs.size<=c
 hd:X.calm=true->X.A.handled=none
 frames:X.A.frames=some X.stack
 stk:X.stack=X.outer\/(X.stack=X.env :: X.outer/\X.env.frame=some X.env.locals)
 exf:∀ b∈X.ex,b≠X.env.locals/\∀ x c,X.env.cells.lookup x=some c->c≠b
 bs:∀ b o,X.base.get? b=some o->X.s₀.heap.get? b=some o/\X.H₀ b=none
 bsz:X.base.objs.size<=X.s₀.heap.objs.size
 noex:∀ b o,X.base.get? b=some o->b∉X.ex
 exfs:∀ b∈X.ex,b∉X.fs
 funs:X.s₀.heap.FunFrames X.base X.outer
 frf:∀ b∈X.fs,X.H₀ b=none
structure Inv (X:Cx) (pins:List (Addr × Obj)) (σ:List (Option V)) (H:Hp) (s:Shared):Prop where
 ok:X.Ok
 os:s.os=X.s₀.os
 bare:AllBare s.gens
 base:Un X.fs X.ex X.H₀ H X.s₀.heap s.heap
 loc:∃ m,s.heap.Ns X.env.locals m/\∀(i:Nat) (x:Str) (v:V),X.N[i]?=some x->σ[i]?=some (some v)->Vis X.env.scope x->∃ u,RelV v u/\Look X.env s.heap m x u
 cell:∀ x c,X.env.cells.lookup x=some c->∃ v,s.heap.IsCell c v
 free:H X.env.locals=none
 freeC:∀ x c,X.env.cells.lookup x=some c->H c=none
 pin:∀ p∈X.pn++pins,s.heap.get? p.1=some p.2/\H p.1=none/\p.1≠X.env.locals/\p.1∉X.fs/\∀ v,p.2.data≠.cell v
 hok:HOk X.prog X.w H s.heap
 len:σ.length=X.N.length
section
variable{X:Cx}{pins:List (Addr × Obj)}{σ:List (Option V)}{H H':Hp}{s:Shared}{h':Heap}
theorem Cx.Ok.nofr(ok:X.Ok){b:Addr}{o:Obj}(e:X.base.get? b=some o):b∉X.fs:=fun hb=>by
 have:=(ok.funs.mem hb).1
 rw[e]at this;cases this
theorem Inv.bs(I:Inv X pins σ H s):∀ b o,X.base.get? b=some o->s.heap.get? b=some o/\H b=none:=fun b o e =>
 ⟨I.base.keep b o (I.ok.bs b o e).1 (I.ok.bs b o e).2 (I.ok.nofr e) (I.ok.noex b o e),I.base.free b o (I.ok.bs b o e).1 (I.ok.bs b o e).2 (I.ok.noex b o e)⟩
theorem Inv.bk(I:Inv X pins σ H s):∀ b o,X.base.get? b=some o->s.heap.get? b=some o:=fun b o e=>(I.bs b o e).1
theorem Inv.mod(I:Inv X pins σ H s):Mod X.K X.mg X.base:=I.ok.mod
theorem Inv.kIn(I:Inv X pins σ H s):X.K.In s.heap:=I.ok.mod.kin.keeps I.bk
theorem Inv.lt(I:Inv X pins σ H s):X.env.locals<s.heap.objs.size:=let ⟨_,hn,_⟩:=I.loc;hn.lt
theorem Inv.sz(I:Inv X pins σ H s):X.s₀.heap.objs.size<=s.heap.objs.size:=YF I.ok.above (Y1A I.lt)
theorem Inv.nofs(I:Inv X pins σ H s){a:Addr}(h:s.heap.objs.size<=a):a∉X.fs:=fun hb=>by obtain⟨_,o,ho,_⟩:=I.ok.funs.mem hb;exact absurd (Yq (Yp ho) (YF I.sz h)) (Y0z _)
theorem Inv.cne(I:Inv X pins σ H s):∀ x c,X.env.cells.lookup x=some c->c≠X.env.locals:=fun x c e z=>by obtain⟨v,o,ho,hd⟩:=I.cell x c e;obtain⟨m,⟨o',es,ep,ho',hd',_⟩,_⟩:=I.loc;rw[z,ho']at ho;cases ho;rw[hd']at hd;cases hd
theorem Inv.funs(I:Inv X pins σ H s):s.heap.FunFrames X.base X.outer:=by
 have all:∀(l:List Env),(∀ b∈frs l,b∈X.fs)->X.s₀.heap.FunFrames X.base l->s.heap.FunFrames X.base l:=by
  intro l
  induction l with
  | nil=>intro _ _;trivial
  | cons env r ih =>
   intro hs hl;obtain⟨hk,⟨L,o,hf,hn,ho,hd⟩,hr⟩:=hl;have hL:L∈X.fs:=hs L (by unfold frs;rw[Y1H,hf];exact Ye)
   obtain⟨sl,e⟩:=I.base.slot L o ho (I.ok.frf L hL) hL fun z=>I.ok.exfs L z hL;exact⟨hk,⟨L,_,hf,hn,e,hd⟩,ih (fun b hb=>hs b (by unfold frs;rw[Y1H,hf];exact Yg _ hb)) hr⟩
 exact all X.outer (fun _ hb=>hb) I.ok.funs
theorem Inv.stack(I:Inv X pins σ H s):s.heap.FunFrames X.base X.stack:=by
 rcases I.ok.stk with e | ⟨e,hf⟩
 ·rw[e];exact I.funs
 ·rw[e];obtain⟨m,hn,_⟩:=I.loc;refine .cons (by rw[I.ok.kind];decide) hf hn ?_ I.funs;exact Heap.get?_none_of_le (YF I.ok.bsz I.ok.above)
theorem Inv.stkSub(I:Inv X pins σ H s):∀ b∈frs X.stack,b∈X.env.locals :: X.fs:=fun b hb=>by
 rcases I.ok.stk with e | ⟨e,hf⟩
 ·rw[e]at hb;exact Yg _ hb
 ·rw[e]at hb;unfold frs at hb;rw[Y1H,hf]at hb;exact hb
theorem Inv.stkFree(I:Inv X pins σ H s):∀ b∈frs X.stack,H b=none:=fun b hb=>by
 rcases Yh.mp (I.stkSub b hb) with e | hb
 ·rw[e];exact I.free
 ·obtain⟨_,o,ho,_⟩:=I.ok.funs.mem hb;exact I.base.free b o ho (I.ok.frf b hb) fun z=>I.ok.exfs b z hb
theorem Inv.step{g':Array GenState}{t':Nat}{d':Drawn}{ch:List Addr}(I:Inv X pins σ H s)
  (hch:∀ b∈ch,(b∈X.ex\/X.s₀.heap.objs.size<=b)/\b≠X.env.locals/\(∀ x c,X.env.cells.lookup x=some c->c≠b)/\∀ p∈X.pn++pins,p.1≠b)
  (keep:∀ b o,b≠X.env.locals->b∉X.fs->b∉ch->s.heap.get? b=some o->H b=none->h'.get? b=some o)
  (slot:∀ b o,b≠X.env.locals->b∈X.fs->b∉ch->s.heap.get? b=some o->H b=none->∃ sl,h'.get? b=some { o with slots:=sl }) (free:∀ b o,b∉ch->s.heap.get? b=some o->H b=none->H' b=none)
  (there:∀ b o,b∉ch->s.heap.get? b=some o->∃ o',h'.get? b=some o')
  (tups:∀ b xs,H b=some (.tup xs)->H' b=some (.tup xs)) (frzs:∀ b o u,H b=some (.frz o u)->H' b=some (.frz o u)) (tbls:∀ b ps,H b=some (.tbl ps)->∃ more,H' b=some (.tbl (ps++more)))
  (ns:∀ m,s.heap.Ns X.env.locals m->h'.Ns X.env.locals m) (hok:HOk X.prog X.w H' h') (hg:AllBare g') :
  Inv X pins σ H' { s with heap:=h',gens:=g',drawn:=d',toks:=t' }:=by
 have neL:∀ b o,X.s₀.heap.get? b=some o->b≠X.env.locals:=fun b o e=>Yu (Yq (Yp e) I.ok.above);have neC:∀ b o,X.s₀.heap.get? b=some o->b∉X.ex->b∉ch:=fun b o e hx hb=>by
  rcases(hch b hb).1 with z | z
  ·exact hx z
  ·exact absurd (Yq (Yp e) z) (Y0z _)
 have cellK:∀ x c,X.env.cells.lookup x=some c->∀ v,s.heap.IsCell c v->h'.IsCell c v:=fun x c e v ⟨o,ho,hd⟩=>by
  have nch:c∉ch:=fun z=>(hch c z).2.2.1 x c e rfl;by_cases hc:c∈X.fs
  ·obtain⟨sl,q⟩:=slot c o (I.cne x c e) hc nch ho (I.freeC x c e);exact⟨_,q,hd⟩
  ·exact⟨o,keep c o (I.cne x c e) hc nch ho (I.freeC x c e),hd⟩
 refine⟨I.ok,I.os,hg,⟨fun b o e n hb hx=>?_,fun b o e n hb hx=>?_,fun b o e n hx=>?_,fun b o e hx=>?_,fun b xs e=>tups b xs (I.base.tups b xs e),fun b o xs e=>frzs b o xs (I.base.frzs b o xs e),fun b ps e=>?_⟩,?_,fun x c e=>?_,?_,fun x c e=>?_,fun p hp=>?_,hok,I.len⟩
 ·exact keep b o (neL b o e) hb (neC b o e hx) (I.base.keep b o e n hb hx) (I.base.free b o e n hx)
 ·obtain⟨sl,e1⟩:=I.base.slot b o e n hb hx;obtain⟨sl',e2⟩:=slot b _ (neL b o e) hb (neC b o e hx) e1 (I.base.free b o e n hx);exact⟨sl',e2⟩
 ·obtain⟨o',e1⟩:=I.base.there b o e hx;exact free b o' (neC b o e hx) e1 (I.base.free b o e n hx)
 ·obtain⟨o',e1⟩:=I.base.there b o e hx;exact there b o' (neC b o e hx) e1
 ·obtain⟨m1,e1⟩:=I.base.tbls b ps e;obtain⟨m2,e2⟩:=tbls b _ e1;exact⟨m1++m2,by rw[e2,Array.append_assoc]⟩
 ·obtain⟨m,hn,hl⟩:=I.loc;refine⟨m,ns m hn,fun i x v e1 e2 e3=>?_⟩;obtain⟨u,r,l⟩:=hl i x v e1 e2 e3;refine⟨u,r,?_⟩;rcases l with l | ⟨k,c,e,z⟩
  ·exact .inl l
  ·exact .inr ⟨k,c,e,cellK x c e _ z⟩
 ·obtain⟨v,z⟩:=I.cell x c e;exact⟨v,cellK x c e v z⟩
 ·obtain⟨m,⟨o,_,_,ho,_⟩,_⟩:=I.loc;exact free _ o (fun z=>(hch _ z).2.1 rfl) ho I.free
 ·obtain⟨v,o,ho,hd⟩:=I.cell x c e;exact free c o (fun z=>(hch c z).2.2.1 x c e rfl) ho (I.freeC x c e)
 ·obtain⟨e,n,ne,nf,d⟩:=I.pin p hp;have nch:p.1∉ch:=fun z=>(hch p.1 z).2.2.2 p hp rfl
  exact⟨keep p.1 p.2 ne nf nch e n,free p.1 p.2 nch e n,ne,nf,d⟩
theorem Inv.un{t':Nat}(I:Inv X pins σ H s)(u:Un X.fs [] H H' s.heap h')(hok:HOk X.prog X.w H' h'):Inv X pins σ H' { s with heap:=h',toks:=t' }:=by
 obtain⟨m,⟨o,es,ep,ho,r⟩,_⟩:=id I.loc;obtain⟨sl,hL⟩:=u.any ho I.free (by simp);exact I.step (g':=s.gens) (d':=s.drawn) (ch:=[]) (fun _ z=>nomatch z) (fun b o _ hb _ e n=>u.keep b o e n hb (by simp)) (fun b o _ hb _ e n=>u.slot b o e n hb (by simp)) (fun b o _ e n=>u.free b o e n (by simp)) (fun b o _ e=>u.there b o e (by simp)) u.tups u.frzs u.tbls (fun m' hm=>by obtain⟨o',es',ep',ho',r'⟩:=hm;rw[ho]at ho';cases ho';exact⟨_,es',ep',hL,r'⟩) hok I.bare
theorem Inv.call{g':Array GenState}{t':Nat}{d':Drawn}{ch:List Addr}(I:Inv X pins σ H s)(u:Un (frs X.stack) ch H H' s.heap h')(hok:HOk X.prog X.w H' h')(hg:AllBare g')
  (hch:∀ b∈ch,(b∈X.ex\/X.s₀.heap.objs.size<=b)/\b≠X.env.locals/\(∀ x c,X.env.cells.lookup x=some c->c≠b)/\∀ p∈X.pn++pins,p.1≠b) :
  Inv X pins σ H' { s with heap:=h',gens:=g',drawn:=d',toks:=t' }:=by
 obtain⟨m,⟨o,es,ep,ho,r⟩,_⟩:=id I.loc;obtain⟨sl,hL⟩:=u.any ho I.free fun z=>(hch _ z).2.1 rfl;exact I.step (ch:=ch) hch (fun b o hL hb hc e n=>u.keep b o e n (fun z=>(Yh.mp (I.stkSub b z)).elim hL hb) hc) (fun b o _ _ hc e n=>u.any e n hc) (fun b o hc e n=>u.free b o e n hc) (fun b o hc e=>u.there b o e hc) u.tups u.frzs u.tbls (fun m' hm=>by obtain⟨o',es',ep',ho',r'⟩:=hm;rw[ho]at ho';cases ho';exact⟨_,es',ep',hL,r'⟩) hok hg
theorem Inv.turned{t':Nat}{it:Addr}(I:Inv X pins σ H s)(k:∀ b o,b≠it->s.heap.get? b=some o->h'.get? b=some o)(hn:H it=none)(hL:it≠X.env.locals)
  (h1:it∈X.ex\/X.s₀.heap.objs.size<=it) (h2:∀ x c,X.env.cells.lookup x=some c->c≠it) (h3:∀ p∈X.pn++pins,p.1≠it):Inv X pins σ H { s with heap:=h',toks:=t' }:=by
 have nit:∀ b u,H b=some u->b≠it:=fun b u e z=>by rw[z,hn]at e;cases e
 refine I.step (g':=s.gens) (d':=s.drawn) (ch:=[it]) (fun b hb=>?_) (fun b o _ _ hc e _=>k b o (fun z=>hc (by simp[z])) e) (fun b o _ _ hc e _=>⟨o.slots,k b o (fun z=>hc (by simp[z])) e⟩) (fun _ _ _ _ n=>n)
  (fun b o hc e=>⟨o,k b o (fun z=>hc (by simp[z])) e⟩) (fun _ _ e=>e) (fun _ _ _ e=>e) (fun b ps e=>⟨#[],by rw[e];simp⟩) (fun m hm=>?_) (fun b u e=>?_) I.bare
 ·have e:b=it:=by simpa using hb
  subst e;exact⟨h1,hL,h2,h3⟩
 ·obtain⟨o,es,ep,ho,r⟩:=hm;exact⟨o,es,ep,k _ o (Yy03 hL) ho,r⟩
 ·refine(I.hok b u e).stay (fun c v hc q=>k c v ?_ q) (fun _ q=>q) fun _ _ q=>q;rcases hc with z | z
  ·rw[z];exact nit b u e
  ·exact nit c _ z
theorem Inv.tok(I:Inv X pins σ H s)(t:Nat):Inv X pins σ H { s with toks:=t }:=I.un (h':=s.heap) (t':=t) Un.refl I.hok
theorem Inv.kept{t':Nat}(I:Inv X pins σ H s)(k:∀ b u,s.heap.get? b=some u->h'.get? b=some u):Inv X pins σ H { s with heap:=h',toks:=t' }:=I.un (Un.kept k) (I.hok.kept k)
theorem Inv.laid{a:Addr}{o:HO}{t':Nat}(I:Inv X pins σ H s)(k:∀ b u,s.heap.get? b=some u->h'.get? b=some u)(hp:s.heap.objs.size<=a)(new:ObjOk X.prog X.w (upd H a o) h' a o) :
  Inv X pins σ (upd H a o) { s with heap:=h',toks:=t' }:=I.un (Un.laid k hp (I.hok.fresh hp)) (I.hok.laid k hp new)
theorem Inv.write{x e:Addr}{o:HO}{t':Nat}(I:Inv X pins σ H s)(mu:Mut (H x))(he:e=x\/H e=some (.own x))(k:∀ b u,b≠e->s.heap.get? b=some u->h'.get? b=some u)(heo:∃ u,h'.get? e=some u)
  (new:ObjOk X.prog X.w (upd H x o) h' x o):Inv X pins σ (upd H x o) { s with heap:=h',toks:=t' }:=I.un (Un.write mu he k heo) (I.hok.write mu he k heo new)
theorem Inv.weak{σ':List (Option V)}(I:Inv X pins σ H s)(hl:σ'.length=σ.length)(w:∀(i:Nat) v,σ'[i]?=some (some v)->σ[i]?=some (some v)):Inv X pins σ' H s :=
 ⟨I.ok,I.os,I.bare,I.base,let ⟨m,hn,hl'⟩:=I.loc;⟨m,hn,fun i x v e1 e2 e3=>hl' i x v e1 (w i v e2) e3⟩,I.cell,I.free,I.freeC,I.pin,I.hok,hl.trans I.len⟩
theorem Inv.pins_of{pins':List (Addr × Obj)}(I:Inv X pins σ H s)(h:∀ p∈pins',s.heap.get? p.1=some p.2/\H p.1=none/\p.1≠X.env.locals/\p.1∉X.fs/\∀ v,p.2.data≠.cell v):Inv X pins' σ H s :=
 ⟨I.ok,I.os,I.bare,I.base,I.loc,I.cell,I.free,I.freeC,fun p hp=>(Yy9.mp hp).elim (fun z=>I.pin p (Yk _ z)) (h p),I.hok,I.len⟩
theorem Zz56{N:List Str}(hN:N.Nodup){i j:Nat}{x:Str}(a:N[i]?=some x)(b:N[j]?=some x):i=j:=by obtain⟨h1,e1⟩:=Yy2.mp a;obtain⟨h2,e2⟩:=Yy2.mp b;exact(List.getElem_inj hN).mp (e1.trans e2.symm)
theorem Ze7{M:Model}{A:Around}{E:Value->Shared->Prop}{i:Nat}{x:Str}{v:V}{u:Value}{Q:Unit->Shared->Prop}(I:Inv X pins σ H s)(hN:X.N.Nodup)(hi:X.N[i]?=some x)(hx:Loc X.env.scope x)(r:RelV v u)
  (h:∀ s',Inv X pins (σ.set i (some v)) H s'->(∃ a,Heap.SameBut a s.heap s'.heap/\(a=X.env.locals\/X.env.cells.lookup x=some a))->Q () s') (hf:X.fn x=true\/X.env.scope.names.lookup x=some .local:=by first | exact .inl rfl | exact .inr rfl | assumption):wpAny M A (storeName X.env x u) Q E s:=by
 obtain⟨m,hn,hl⟩:=id I.loc;have hcls:(X.env.scope.kind == .class || (X.env.scope.kind == .module && X.env.locals != X.env.globals))=false:=by rw[I.ok.kind];rfl
 have hiσ:i<σ.length:=by rw[I.len];exact(Yy2.mp hi).1
 have cne:=I.cne;have tracked:∀ {a:Addr} {h':Heap},(∃ o,s.heap.get? a=some o/\H a=none)->Heap.SameBut a s.heap h'->HOk X.prog X.w H h':=fun {a h'} ha hs b ob e=>by
  obtain⟨_,_,hfree⟩:=ha;refine(I.hok b ob e).stay (fun c w' hc q=>(hs.2 c ?_).trans q) (fun _ q=>q) fun _ _ q=>q;rintro rfl;rcases hc with rfl | hc
  ·rw[hfree]at e;cases e
  ·rw[hfree]at hc;cases hc
 rcases hx with hk | hk
 ·refine wpAny_storeName_local hk hn (fun h' hn' hs=>?_) hcls;obtain⟨oL,_,_,hoL,_⟩:=id hn;refine h _ ⟨I.ok,I.os,I.bare,⟨fun b o e n hb hx=>?_,fun b o e n hb hx=>?_,I.base.free,fun b o e hx=>?_,I.base.tups,I.base.frzs,I.base.tbls⟩,⟨_,hn',fun j y v' e1 e2 e3=>?_⟩,fun y c e=>?_,I.free,I.freeC,fun p hp=>?_,tracked ⟨oL,hoL,I.free⟩ hs,by simpa using I.len⟩ ⟨_,hs,.inl rfl⟩
  ·exact(hs.2 b (Yu (Yq (Yp e) I.ok.above))).trans (I.base.keep b o e n hb hx)
  ·obtain⟨sl,e1⟩:=I.base.slot b o e n hb hx;exact⟨sl,(hs.2 b (Yu (Yq (Yp e) I.ok.above))).trans e1⟩
  ·obtain⟨o',e1⟩:=I.base.there b o e hx;exact⟨o',(hs.2 b (Yu (Yq (Yp e) I.ok.above))).trans e1⟩
  ·by_cases hj:j=i
   ·subst hj;rw[hi]at e1;cases e1;rw[Yy22 hiσ]at e2;cases e2;exact⟨u,r,.inl ⟨hk,by simp⟩⟩
   ·rw[Y2d (Yy03 hj)]at e2;obtain⟨u',r',q⟩:=hl j y v' e1 e2 e3;refine⟨u',r',?_⟩;rcases q with ⟨k,e⟩ | ⟨k,c,e,z⟩
    ·refine .inl ⟨k,?_⟩
     have:y≠x:=fun e=>hj (Zz56 hN e1 (e ▸ hi))
     simp[this,e]
    ·exact .inr ⟨k,c,e,z.sameBut hs (cne y c e)⟩
  ·obtain⟨w',z⟩:=I.cell y c e;exact⟨w',z.sameBut hs (cne y c e)⟩
  ·obtain⟨e,n,ne,nf,d⟩:=I.pin p hp;exact⟨(hs.2 p.1 ne).trans e,n,ne,nf,d⟩
 ·have hfn:X.fn x=true:=by
   rcases hf with z | z
   ·exact z
   ·rw[z]at hk;cases hk
  obtain⟨c,hc⟩:=I.ok.has x (.inl hk);obtain⟨w',z⟩:=I.cell x c hc;refine wpAny_storeName_cell I.ok.kind hk hc z (fun h' hc' hs=>?_);obtain⟨oc,hoc,hocd⟩:=id z;refine h { s with heap:=h' } ⟨I.ok,I.os,I.bare,⟨fun b o e n hb hx=>?_,fun b o e n hb hx=>?_,I.base.free,fun b o e hx=>?_,I.base.tups,I.base.frzs,I.base.tbls⟩,⟨m,hn.sameBut hs (Yy03 (cne x c hc)),fun j y v' e1 e2 e3=>?_⟩,fun y c' e=>?_,I.free,I.freeC,fun p hp=>?_,tracked ⟨oc,hoc,I.freeC x c hc⟩ hs,by simpa using I.len⟩ ⟨c,hs,.inr hc⟩
  ·exact(hs.2 b (Yu (Yq (Yp e) (I.ok.cab x c hfn hc)))).trans (I.base.keep b o e n hb hx)
  ·obtain⟨sl,e1⟩:=I.base.slot b o e n hb hx;exact⟨sl,(hs.2 b (Yu (Yq (Yp e) (I.ok.cab x c hfn hc)))).trans e1⟩
  ·obtain⟨o',e1⟩:=I.base.there b o e hx;exact⟨o',(hs.2 b (Yu (Yq (Yp e) (I.ok.cab x c hfn hc)))).trans e1⟩
  ·by_cases hj:j=i
   ·subst hj;rw[hi]at e1;cases e1;rw[Yy22 hiσ]at e2;cases e2;exact⟨u,r,.inr ⟨.inl hk,c,hc,hc'⟩⟩
   ·rw[Y2d (Yy03 hj)]at e2;obtain⟨u',r',q⟩:=hl j y v' e1 e2 e3;refine⟨u',r',?_⟩;rcases q with q | ⟨k,c',e,z'⟩
    ·exact .inl q
    ·refine .inr ⟨k,c',e,z'.sameBut hs ?_⟩;rintro rfl;exact hj (Zz56 hN e1 (I.ok.inj _ _ _ e hc ▸ hi))
  ·by_cases hcc:c'=c
   ·subst hcc;exact⟨_,hc'⟩
   ·obtain⟨w2,z2⟩:=I.cell y c' e;exact⟨w2,z2.sameBut hs hcc⟩
  ·obtain⟨e,n,ne,nf,d⟩:=I.pin p hp;refine⟨(hs.2 p.1 ?_).trans e,n,ne,nf,d⟩;intro q;rw[q,hoc]at e;have q':oc=p.2:=Yc e
   exact d w' (by rw[<- q'];exact hocd)
theorem ZF2{M:Model}{A:Around}{E:Value->Shared->Prop}{i:Nat}{x:Str}{v:V}{u:Value}{Q:Unit->Shared->Prop}(I:Inv X pins σ H s)(hN:X.N.Nodup)(hi:X.N[i]?=some x)(hx:Loc X.env.scope x)(r:RelV v u)
  (h:∀ s',Inv X pins (σ.set i (some v)) H s'->Q () s') (hf:X.fn x=true\/X.env.scope.names.lookup x=some .local:=by first | exact .inl rfl | exact .inr rfl | assumption):wpAny M A (storeName X.env x u) Q E s :=
 Ze7 I hN hi hx r (fun s' I' _=>h s' I') hf
theorem Inv.call'{s':Shared}{ch:List Addr}(I:Inv X pins σ H s)(ho:s'.os=s.os)(u:Un (frs X.stack) ch H H' s.heap s'.heap)(hok:HOk X.prog X.w H' s'.heap)(hg:AllBare s'.gens)
  (hch:∀ b∈ch,(b∈X.ex\/X.s₀.heap.objs.size<=b)/\b≠X.env.locals/\(∀ x c,X.env.cells.lookup x=some c->c≠b)/\∀ p∈X.pn++pins,p.1≠b):Inv X pins σ H' s':=by
 obtain⟨h',g',d',t',o'⟩:=s';have e:o'=s.os:=ho
 subst e;exact I.call (g':=g') (t':=t') (d':=d') u hok hg hch
end
abbrev XK:=Value->Option Addr->Hp->Prop
abbrev St:=List (Option V)
abbrev VK:=V->Hp->Prop
abbrev TE:=St->Hp->VK->Prop
abbrev TT:=St->Hp->(Bool->Hp->Prop)->Prop
abbrev TA:=St->Hp->(List V->Hp->Prop)->Prop
structure Ends where
 nx:St->Hp->Prop
 rt:VK
 bk:St->Hp->Prop:=fun _ _=>False
 ct:St->Hp->Prop:=fun _ _=>False
abbrev TS:=Ends->St->Hp->Prop
def EP(X:Cx)(pins:List (Addr × Obj))(σ:St)(Q:VK)(u:Value)(s':Shared):Prop:=∃ v H',Inv X pins σ H' s'/\RelV v u/\Q v H'
def TP(X:Cx)(pins:List (Addr × Obj))(σ:St)(Q:Bool->Hp->Prop)(b:Bool)(s':Shared):Prop:=∃ H',Inv X pins σ H' s'/\Q b H'
def AP(X:Cx)(pins:List (Addr × Obj))(σ:St)(Q:List V->Hp->Prop)(us:List Value)(s':Shared):Prop:=∃ vs H',Inv X pins σ H' s'/\Vals vs us/\Q vs H'
def SP(X:Cx)(pins:List (Addr × Obj))(D:Ends)(f:Flow)(s':Shared):Prop :=
 match f with
 | .next=>∃ σ' H',Inv X pins σ' H' s'/\D.nx σ' H'
 | .brk=>∃ σ' H',Inv X pins σ' H' s'/\D.bk σ' H'
 | .cont=>∃ σ' H',Inv X pins σ' H' s'/\D.ct σ' H'
 | .ret u=>∃ v σ' H',Inv X pins σ' H' s'/\RelV v u/\D.rt v H'
def PE(X:Cx)(e:Expr)(t:TE):Prop :=
 ∀(pins:List (Addr × Obj)) (s:Shared) (σ:St) (H:Hp) (Q:VK),Inv X pins σ H s->t σ H Q->wpAny (model X.prog X.w) X.A (eval e X.env) (EP X pins σ Q) X.xe s
def PT(X:Cx)(e:Expr)(t:TT):Prop :=
 ∀(pins:List (Addr × Obj)) (s:Shared) (σ:St) (H:Hp) (Q:Bool->Hp->Prop),Inv X pins σ H s->t σ H Q->wpAny (model X.prog X.w) X.A (isTrue e X.env (eval e X.env)) (TP X pins σ Q) X.xe s
def PW(X:Cx)(e:Expr)(t:TT):Prop :=
 ∀(whole:Sem Value) (pins:List (Addr × Obj)) (s:Shared) (σ:St) (H:Hp) (Q:Bool->Hp->Prop),Inv X pins σ H s->t σ H Q->wpAny (model X.prog X.w) X.A (isTrue e X.env whole) (TP X pins σ Q) X.xe s
theorem PW.pt{X:Cx}{e:Expr}{t:TT}(h:PW X e t):PT X e t:=h _
def PA(X:Cx)(es:List Expr)(t:TA):Prop :=
 ∀(pos:Pos) (pins:List (Addr × Obj)) (s:Shared) (σ:St) (H:Hp) (Q:List V->Hp->Prop),Inv X pins σ H s->t σ H Q->wpAny (model X.prog X.w) X.A (spliced (backTo pos (starEach es X.env))) (AP X pins σ Q) X.xe s
def PS(X:Cx)(st:Stmt)(t:TS):Prop :=
 ∀(pins:List (Addr × Obj)) (s:Shared) (σ:St) (H:Hp) (D:Ends),Inv X pins σ H s->t D σ H->wpAny (model X.prog X.w) X.A (exec st X.env) (SP X pins D) X.xe s
def PSs(X:Cx)(st:List Stmt)(t:TS):Prop :=
 ∀(pins:List (Addr × Obj)) (s:Shared) (σ:St) (H:Hp) (D:Ends),Inv X pins σ H s->t D σ H->wpAny (model X.prog X.w) X.A (execs st X.env) (SP X pins D) X.xe s
theorem thn{α:Type}{t:Sem α}{Q Q':α->Shared->Prop}{M:Model}{A:Around}{E:Value->Shared->Prop}{s:Shared}(h:wpAny M A t Q E s)(hQ:∀ a s,Q a s->Q' a s):wpAny M A t Q' E s:=Y0O h hQ fun _ _ x=>x
section
variable{X:Cx}
def tVar(i:Nat):TE:=fun σ H Q=>∃ v,σ[i]?=some (some v)/\Q v H
def tC(v:V):TE:=fun _ H Q=>Q v H
theorem ZP12 {i:Nat} {x:Str} {pos:Pos} (hN:X.N[i]?=some x) (hv:Vis X.env.scope x) (hd:(x == ("__debug__":Str))=false:=by decide) (hcd:(x == ("__classdict__":Str))=false:=by decide):PE X (.Name x pos) (tVar i):=by
 intro pins s σ H Q I h;obtain⟨v,e,h⟩:=h;obtain⟨m,hn,hl⟩:=I.loc;obtain⟨u,r,l⟩:=hl i x v hN e hv;have fin:EP X pins σ Q u s:=⟨v,H,I,r,h⟩
 rcases l with ⟨hk,hm⟩ | ⟨hk,c,hc,hcell⟩
 ·exact wpAny_Name (wpAny_loadName_local I.ok.kind hk hn hm fin) hd
 ·rcases hk with hk | hk
  ·exact wpAny_Name (wpAny_loadName_cell I.ok.kind hk hc hcell fin) hd
  ·exact wpAny_Name (wpAny_loadName_free I.ok.kind hk hc hcell fin hcd) hd
theorem Zz9{i j pos}:PE X (.Constant (.int i) j pos) (tC (.int i)):=fun _ _ _ H _ I h=>wpAny_Constant_int ⟨.int i,H,I.tok _,⟨_,rfl⟩,h⟩
theorem Zr7{b j pos}:PE X (.Constant (.bool b) j pos) (tC (.bl b)):=fun _ _ _ H _ I h=>Constant_bool ⟨.bl b,H,I,rfl,h⟩
theorem Zq7{j pos}:PE X (.Constant .none j pos) (tC .non):=fun _ _ _ H _ I h=>Constant_none ⟨.non,H,I,rfl,h⟩
def Gl(X:Cx)(x:Str):Prop:=X.env.kindOf x=some .globalImplicit
theorem Zk6{E:Value->Shared->Prop}{pins:List (Addr × Obj)}{s:Shared}{σ:St}{H:Hp}{x:Str}{u:Value}{pos:Pos}{Q:Value->Shared->Prop}(I:Inv X pins σ H s)(hg:Gl X x)(hm:X.mg x=some u)(h:Q u s)
  (hd:(x == ("__debug__":Str))=false:=by decide):wpAny (model X.prog X.w) X.A (eval (.Name x pos) X.env) Q E s :=
 Calls.Name_function_global I.ok.kind hg (Calls.loadGlobal_global (by rw[I.ok.glob];exact I.mod.glob.keeps I.bk) hm h) hd
theorem ZR2{E:Value->Shared->Prop}{pins:List (Addr × Obj)}{s:Shared}{σ:St}{H:Hp}{x:Str}{u:Value}{pos:Pos}{Q:Value->Shared->Prop}(I:Inv X pins σ H s)(hg:Gl X x)(hm:X.mg x=none)(hv:bootBuiltins x=some u)(h:Q u s)
  (hn:x≠"__name__":=by decide) (hd:(x == ("__debug__":Str))=false:=by decide):wpAny (model X.prog X.w) X.A (eval (.Name x pos) X.env) Q E s:=by obtain⟨mb,h1,h2⟩:=I.mod.blt;exact Calls.Name_function_global I.ok.kind hg (Calls.loadGlobal_builtin (by rw[I.ok.glob];exact I.mod.glob.keeps I.bk) hm (by rw[I.ok.blt];exact h1.keeps I.bk) ((h2 x hn).trans hv) h) hd
theorem Zg8 {x:Str} {v:V} {u:Value} {pos:Pos} (hg:Gl X x) (hm:X.mg x=some u) (r:RelV v u) (hd:(x == ("__debug__":Str))=false:=by decide):PE X (.Name x pos) (tC v) :=
 fun _ _ _ H _ I h=>Zk6 I hg hm ⟨v,H,I,r,h⟩ hd
variable{a b:Expr}{ta tb:TE}{pos:Pos}
def PC(X:Cx)(op:CmpOp)(a b:Expr)(t:TE):Prop :=
 ∀(pins:List (Addr × Obj)) (s:Shared) (σ:St) (H:Hp) (Q:VK),Inv X pins σ H s->t σ H Q ->
  wpAny (model X.prog X.w) X.A (eval a X.env) (fun v s₁=>wpAny (model X.prog X.w) X.A (eval b X.env) (fun u s₂=>wpAny (model X.prog X.w) X.A (compareOp op v u) (EP X pins σ Q) X.xe s₂) X.xe s₁) X.xe s
def tB(t:TE):TT:=fun σ H Q=>t σ H fun x H1=>∃ c,x=.bl c/\Q c H1
theorem ZS5{e:Expr}{t:TE}(h:PE X e t)(he:∀ whole,isTrue e X.env whole=(do let v <- whole;standAt e.pos;holding [v] (truthy v)):=by intro _;rfl):PT X e (tB t):=by intro pins s σ H Q I hw;refine isTrue_plain (thn (h pins s σ H _ I hw) fun v s1 ⟨x,H1,I1,r1,q1⟩=>?_) (he _);obtain⟨d,rfl,q⟩:=q1;cases r1;exact Yy10 ⟨H1,I1,q⟩
variable{tA tB':TT}{rest:List Expr}
def tAnd(t u:TT):TT:=fun σ H Q=>t σ H fun c H1=>if c=true then u σ H1 Q else Q false H1
def tOr(t u:TT):TT:=fun σ H Q=>t σ H fun c H1=>if c=true then Q true H1 else u σ H1 Q
def tNot(t:TT):TT:=fun σ H Q=>t σ H fun c H1=>Q (!c) H1
theorem ZQ5(ha:PT X a tA):PW X (.BoolOp .And [a] pos) tA:=by
 intro wh pins s σ H Q I h;refine isTrue_and (thn (ha pins s σ H Q I h) fun c s1 e=>?_);cases c with
 | true=>exact isTrue_and_nil e
 | false=>exact e
theorem Ze9(ha:PT X a tA):PW X (.BoolOp .Or [a] pos) tA:=by
 intro wh pins s σ H Q I h;refine isTrue_or (thn (ha pins s σ H Q I h) fun c s1 e=>?_);cases c with
 | false=>exact isTrue_or_nil e
 | true=>exact e
theorem Zf9(ha:PT X a tA)(hb:PW X (.BoolOp .And (b :: rest) pos) tB'):PW X (.BoolOp .And (a :: b :: rest) pos) (tAnd tA tB'):=by
 intro wh pins s σ H Q I h;refine isTrue_and (thn (ha pins s σ H _ I h) fun c s1 hz0=>?_);obtain⟨H1,I1,q1⟩:=hz0;cases c with
 | true=>exact hb wh pins s1 σ H1 Q I1 q1
 | false=>exact⟨H1,I1,q1⟩
theorem ZI12(ha:PT X a tA)(hb:PW X (.BoolOp .Or (b :: rest) pos) tB'):PW X (.BoolOp .Or (a :: b :: rest) pos) (tOr tA tB'):=by
 intro wh pins s σ H Q I h;refine isTrue_or (thn (ha pins s σ H _ I h) fun c s1 hz0=>?_);obtain⟨H1,I1,q1⟩:=hz0;cases c with
 | true=>exact⟨H1,I1,q1⟩
 | false=>exact hb wh pins s1 σ H1 Q I1 q1
theorem Zk3(ha:PT X a tA):PT X (.UnaryOp .Not a pos) (tNot tA):=by intro pins s σ H Q I h;exact isTrue_not (ha pins s σ H (fun c H1=>Q (!c) H1) I h)
def ZD13(ta tb:TE):TE:=fun σ H Q=>ta σ H fun x H1=>∃ c,x=.bl c/\if c=true then tb σ H1 Q else Q (.bl false) H1
theorem Zn9{op}{t:TE}(h:PE X a t):PE X (.BoolOp op [a] pos) t:=fun pins s σ H Q I hw=>BoolOp_one (h pins s σ H Q I hw)
theorem Zs7(ha:PE X a ta)(hb:PE X (.BoolOp .And (b :: rest) pos) tb):PE X (.BoolOp .And (a :: b :: rest) pos) (ZD13 ta tb):=by
 intro pins s σ H Q I h;refine BoolOp_and (thn (ha pins s σ H _ I h) fun v s1 hz0=>?_);obtain⟨x,H1,I1,r1,q1⟩:=hz0;obtain⟨c,rfl,q1⟩:=q1;cases r1;refine Yy10 ?_;cases c with
 | true=>exact hb pins s1 σ H1 Q I1 q1
 | false=>exact⟨.bl false,H1,I1,rfl,q1⟩
def tIf(t:TT)(ta tb:TE):TE:=fun σ H Q=>t σ H fun c H1=>if c=true then ta σ H1 Q else tb σ H1 Q
theorem ZY5{c:Expr}(hc:PT X c tA)(ha:PE X a ta)(hb:PE X b tb):PE X (.IfExp c a b pos) (tIf tA ta tb):=by
 intro pins s σ H Q I h;refine wpAny_IfExp (thn (hc pins s σ H _ I h) fun d s1 hz0=>?_);obtain⟨H1,I1,q1⟩:=hz0;cases d with
 | true=>exact ha pins s1 σ H1 Q I1 q1
 | false=>exact hb pins s1 σ H1 Q I1 q1
end
def SqL(K:PySem.W.Frag)(H:Hp)(a:Addr)(xs:List V):Prop :=
 Rd H a (.lst xs) \/
  ∃(o:Obj) (its:Array Value) (n:Nat),K.lookup a=some o/\o.cls=.type "list"/\o.dict=none/\o.data=.seq its n/\its.size<=sizeLine/\Vals xs its.toList
def SqT(K:PySem.W.Frag)(H:Hp)(a:Addr)(xs:List V):Prop :=
 Rd H a (.tup xs) \/
  ∃(o:Obj) (its:Array Value) (n:Nat),K.lookup a=some o/\o.cls=.type "tuple"/\o.data=.seq its n/\its.size<=sizeLine/\Vals xs its.toList
def absV:Value->Option V
 | .none=>some .non
 | .bool b=>some (.bl b)
 | .int i _=>some (.int i)
 | .str x _=>some (.str x)
 | .bytes b _=>some (.byt b)
 | .float b _=>some (.flt b)
 | .ref a=>some (.ref a)
 | .type n=>some (.ty n)
 | _=>none
theorem RelV.abs{x:V}{u:Value}(r:RelV x u):absV u=some x:=by
 cases x with
 | non=>cases r;rfl
 | bl _=>cases r;rfl
 | int _=>obtain⟨t,rfl⟩:=r;rfl
 | str _=>obtain⟨t,rfl⟩:=r;rfl
 | byt _=>obtain⟨t,rfl⟩:=r;rfl
 | flt _=>obtain⟨t,rfl⟩:=r;rfl
 | ref _=>cases r;rfl
 | ty _=>cases r;rfl
theorem RelV.inj{x y:V}{u:Value}(r:RelV x u)(q:RelV y u):x=y:=Yc (r.abs.symm.trans q.abs)
theorem Vals.inj:∀ {xs ys:List V} {us:List Value},Vals xs us->Vals ys us->xs=ys
 | _,_,_,.nil,.nil=>rfl
 | _,_,_,.cons r t,.cons r' t'=>by rw[r.inj r',Vals.inj t t']
section
variable{X:Cx}{pins:List (Addr × Obj)}{σ:St}{H:Hp}{s:Shared}{a:Addr}{xs ys:List V}
theorem SqL.of{K:PySem.W.Frag}(h:H a=some (.lst xs)):SqL K H a xs:=.inl (.inl h)
theorem SqT.of{K:PySem.W.Frag}(h:H a=some (.tup xs)):SqT K H a xs:=.inl (.inl h)
theorem Inv.list(I:Inv X pins σ H s)(h:SqL X.K H a xs):∃ its:List Value,Vals xs its/\PlainL s.heap a its.toArray/\xs.length<=sizeLine:=by
 rcases h with h | ⟨o,its,n,hk,hc,hd,hs,hz,r⟩
 ·obtain⟨z,its,n,r,e⟩:=h.ok I.hok;exact⟨its,r,⟨_,n,e,rfl,rfl,rfl⟩,z⟩
 ·refine⟨its.toList,r,⟨o,n,I.kIn a o hk,hc,hd,by simpa using hs⟩,?_⟩;have e:=r.length
  simp only [YN]at e;omega
theorem Inv.tuple(I:Inv X pins σ H s)(h:SqT X.K H a xs):∃ its:List Value,Vals xs its/\IsTup s.heap a its.toArray/\xs.length<=sizeLine:=by
 rcases h with h | ⟨o,its,n,hk,hc,hs,hz,r⟩
 ·obtain⟨z,its,r,p⟩:=h.ok I.hok;exact⟨its,r,p,z⟩
 ·refine⟨its.toList,r,⟨o,I.kIn a o hk,hc,n,by simpa using hs⟩,?_⟩;have e:=r.length
  simp only [YN]at e;omega
theorem Inv.list_inj(I:Inv X pins σ H s)(h:SqL X.K H a xs)(h':SqL X.K H a ys):xs=ys:=by
 obtain⟨its,r,⟨o,n,e,_,_,d⟩,_⟩:=I.list h;obtain⟨its',r',⟨o',n',e',_,_,d'⟩,_⟩:=I.list h';rw[e]at e';cases e';rw[d]at d';injection d' with d1 _
 have:its=its':=by simpa using Yy04 Array.toList d1
 subst this;exact r.inj r'
theorem Inv.tuple_inj(I:Inv X pins σ H s)(h:SqT X.K H a xs)(h':SqT X.K H a ys):xs=ys:=by
 obtain⟨its,r,⟨o,e,_,n,d⟩,_⟩:=I.tuple h;obtain⟨its',r',⟨o',e',_,n',d'⟩,_⟩:=I.tuple h';rw[e]at e';cases e';rw[d]at d';injection d' with d1 _
 have:its=its':=by simpa using Yy04 Array.toList d1
 subst this;exact r.inj r'
end
abbrev Cx.wish(X:Cx)(E:Value->Shared->Prop):Cx:={ X with xe:=E }
abbrev Cx.nox(X:Cx):Cx:=X.wish fun _ _=>False
theorem Cx.Ok.wish{X:Cx}(ok:X.Ok)(E:Value->Shared->Prop):(X.wish E).Ok :=
 ⟨ok.mod,ok.kind,ok.glob,ok.blt,ok.above,ok.inj,ok.has,ok.cab,ok.hd,ok.frames,ok.stk,ok.exf,ok.bs,ok.bsz,ok.noex,ok.exfs,ok.funs,ok.frf⟩
theorem Cx.Ok.unwish{X:Cx}{E:Value->Shared->Prop}(ok:(X.wish E).Ok):X.Ok :=
 ⟨ok.mod,ok.kind,ok.glob,ok.blt,ok.above,ok.inj,ok.has,ok.cab,ok.hd,ok.frames,ok.stk,ok.exf,ok.bs,ok.bsz,ok.noex,ok.exfs,ok.funs,ok.frf⟩
section
variable{X:Cx}{pins:List (Addr × Obj)}{σ:St}{H:Hp}{s:Shared}{E:Value->Shared->Prop}
theorem Inv.wish(I:Inv X pins σ H s)(E:Value->Shared->Prop):Inv (X.wish E) pins σ H s:=⟨I.ok.wish E,I.os,I.bare,I.base,I.loc,I.cell,I.free,I.freeC,I.pin,I.hok,I.len⟩
theorem Inv.unwish(I:Inv (X.wish E) pins σ H s):Inv X pins σ H s:=⟨I.ok.unwish,I.os,I.bare,I.base,I.loc,I.cell,I.free,I.freeC,I.pin,I.hok,I.len⟩
theorem SP.unwish{D:Ends}{f:Flow}{s':Shared}(h:SP (X.wish E) pins D f s'):SP X pins D f s':=by
 cases f with
 | next=>obtain⟨σ',H',I,q⟩:=h;exact⟨σ',H',I.unwish,q⟩
 | brk=>obtain⟨σ',H',I,q⟩:=h;exact⟨σ',H',I.unwish,q⟩
 | cont=>obtain⟨σ',H',I,q⟩:=h;exact⟨σ',H',I.unwish,q⟩
 | ret u=>obtain⟨v,σ',H',I,r,q⟩:=h;exact⟨v,σ',H',I.unwish,r,q⟩
theorem PSs.nox{st:List Stmt}{t:TS}(h:PSs X.nox st t):PSs X st t:=fun pins s σ H D I hw =>
 Y0O (h pins s σ H D (I.wish _) hw) (fun _ _ q=>q.unwish) fun _ _ z=>False.elim z
end
section
variable{X:Cx}{st:Stmt}{rest:List Stmt}{t u:TS}{e:Expr}{te:TE}{pos:Pos}
def Zy13:TS:=fun D σ H=>D.nx σ H
def tSeq(t u:TS):TS:=fun D σ H=>t { D with nx:=u D } σ H
theorem Zs:PSs X [] Zy13:=fun _ _ σ H _ I h=>Y2p ⟨σ,H,I,h⟩
theorem Zz2(h1:PS X st t)(h2:PSs X rest u):PSs X (st :: rest) (tSeq t u):=by
 intro pins s σ H D I h;refine wpAny_execs_cons (thn (h1 pins s σ H { D with nx:=u D } I h) fun f s1 q=>?_);cases f with
 | next =>
  obtain⟨σ',H',I',q⟩:=q;exact h2 pins s1 σ' H' D I' q
 | ret v=>exact q
 | brk=>exact q
 | cont=>exact q
theorem Zz6(h1:PS X st t):PSs X [st] t:=by
 intro pins s σ H D I h;refine wpAny_execs_cons (thn (h1 pins s σ H D I h) fun f s1 q=>?_);cases f with
 | next=>exact Y2p q
 | ret v=>exact q
 | brk=>exact q
 | cont=>exact q
theorem Inv.quiet{pins:List (Addr × Obj)}{σ:St}{H:Hp}{s:Shared}(I:Inv X pins σ H s):interactive X.env=false:=by simp[interactive,I.ok.kind]
def ZA13(te:TE):TS:=fun D σ H=>te σ H fun _ H1=>D.nx σ H1
theorem ZA(he:PE X e te)(hs:swapsWith e none pos.line X.env=pure false:=by rfl):PS X (.Expr e pos) (ZA13 te):=by intro pins s σ H D I h;exact wpAny_Expr_any (thn (he pins s σ H _ I h) fun v s1 ⟨x,H1,I1,r1,q1⟩=>⟨σ,H1,I1,q1⟩) I.quiet hs
def tRet(te:TE):TS:=fun D σ H=>te σ H D.rt
theorem Zo(he:PE X e te):PS X (.Return (some e) pos) (tRet te):=by intro pins s σ H D I h;exact wpAny_Return_some (thn (he pins s σ H _ I h) fun v s1 ⟨x,H1,I1,r1,q1⟩=>⟨x,σ,H1,I1,r1,q1⟩)
def tIfS(c:TT)(t u:TS):TS:=fun D σ H=>c σ H fun b H1=>if b=true then t D σ H1 else u D σ H1
theorem Zj1{c:Expr}{a b:List Stmt}{tc:TT}(hc:PT X c tc)(ha:PSs X a t)(hb:PSs X b u):PS X (.If c a b pos) (tIfS tc t u):=by
 intro pins s σ H D I h;refine wpAny_If (thn (hc pins s σ H _ I h) fun d s1 hz0=>?_);obtain⟨H1,I1,q1⟩:=hz0;cases d with
 | true=>exact ha pins s1 σ H1 D I1 q1
 | false=>exact hb pins s1 σ H1 D I1 q1
def Zt12:TS:=fun _ _ _=>False
theorem Zd1:PS X st Zt12:=fun _ _ _ _ _ _ h=>h.elim
end
abbrev TG:=V->St->Hp->(St->Hp->Prop)->Prop
abbrev TGs:=List V->St->Hp->(St->Hp->Prop)->Prop
def PG(X:Cx)(target:Expr)(t:TG):Prop :=
 ∀(pins:List (Addr × Obj)) (s:Shared) (σ:St) (H:Hp) (v:V) (u:Value) (Q:St->Hp->Prop),Inv X pins σ H s->RelV v u->t v σ H Q ->
  wpAny (model X.prog X.w) X.A (assign target X.env u) (fun _ s'=>∃ σ' H',Inv X pins σ' H' s'/\Q σ' H') X.xe s
def PGs(X:Cx)(ts:List Expr)(t:TGs):Prop :=
 ∀(pins:List (Addr × Obj)) (s:Shared) (σ:St) (H:Hp) (vs:List V) (us:List Value) (Q:St->Hp->Prop),Inv X pins σ H s->Vals vs us->t vs σ H Q ->
  wpAny (model X.prog X.w) X.A (assignInOrder ((assignEach ts X.env).map (·.2)) us) (fun _ s'=>∃ σ' H',Inv X pins σ' H' s'/\Q σ' H') X.xe s
abbrev TSet:=V->V->V->Hp->(Hp->Prop)->Prop
def PSet(X:Cx)(t:TSet):Prop :=
 ∀(pins:List (Addr × Obj)) (s:Shared) (σ:St) (H:Hp) (o i v:V) (ov iv u:Value) (Q:Hp->Prop),Inv X pins σ H s->RelV o ov->RelV i iv->RelV v u->t o i v H Q ->
  wpAny (model X.prog X.w) X.A (setItem ov iv u) (fun _ s'=>∃ H',Inv X pins σ H' s'/\Q H') X.xe s
abbrev TIp:=V->V->Hp->VK->Prop
def PIp(X:Cx)(op:Operator)(t:TIp):Prop :=
 ∀(pins:List (Addr × Obj)) (s:Shared) (σ:St) (H:Hp) (x y:V) (v u:Value) (Q:VK),Inv X pins σ H s->RelV x v->RelV y u->t x y H Q ->
  wpAny (model X.prog X.w) X.A (inplaceOp op v u) (EP X pins σ Q) X.xe s
section
variable{X:Cx}{pos:Pos}
def ZA8(i:Nat):TG:=fun v σ H Q=>Q (σ.set i (some v)) H
theorem Ze{i:Nat}{x:Str}(hN:X.N.Nodup)(hi:X.N[i]?=some x)(hx:Loc X.env.scope x)(hf:X.fn x=true\/X.env.scope.names.lookup x=some .local:=by first | exact .inl rfl | exact .inr rfl | assumption):PG X (.Name x pos) (ZA8 i):=by intro pins s σ H v u Q I r h;exact wpAny_assign_Name (ZF2 I hN hi hx r (fun s' I'=>⟨_,H,I',h⟩) hf)
def gNil:TGs:=fun vs σ H Q=>vs=[]/\Q σ H
def Zt13(t:TG)(u:TGs):TGs:=fun vs σ H Q=>∃ v r,vs=v :: r/\t v σ H fun σ' H'=>u r σ' H' Q
theorem Zz61:PGs X [] gNil:=by intro pins s σ H vs us Q I r h;obtain⟨e,h⟩:=h;subst e;cases r;exact assignInOrder_nil ⟨σ,H,I,h⟩
theorem Zp{e:Expr}{es:List Expr}{t:TG}{u:TGs}(h1:PG X e t)(h2:PGs X es u)
  (hs:(assignEach (e :: es) X.env).map (·.2)=assign e X.env :: (assignEach es X.env).map (·.2):=by rfl):PGs X (e :: es) (Zt13 t u):=by
 intro pins s σ H vs us Q I r h;obtain⟨v,vr,e1,h⟩:=h;subst e1;cases r with
 | cons r rr =>
  rw[hs];refine assignInOrder_cons (thn (h1 pins s σ H _ _ _ I r h) fun _ s1 hz0=>?_);obtain⟨σ1,H1,I1,q1⟩:=hz0;exact h2 pins s1 σ1 H1 _ _ Q I1 rr q1
def gTup(K:PySem.W.Frag)(n:Nat)(t:TGs):TG:=fun v σ H Q=>∃ a xs,v=.ref a/\SqT K H a xs/\xs.length=n/\t xs σ H Q
theorem ZO12{es:List Expr}{k:Nat}{t:TGs}{n:Nat}(hc:X.calm=true)(h:PGs X es t)
  (hn:(assignEach es X.env).length=n:=by rfl) (hst:(assignEach es X.env).findIdx? (·.1)=none:=by rfl):PG X (.Tuple es k pos) (gTup X.K n t):=by
 intro pins s σ H v u Q I r hw;obtain⟨a,xs,e1,hq,hl,hw⟩:=hw;subst e1;cases r;obtain⟨its,rv,ht,hz⟩:=I.tuple hq;refine assign_Tuple_tuple (I.ok.hd hc) ht (by simp[hn,<- hl,rv.length]) hst fun h' hx=>?_;have I1:Inv X pins σ H { s with heap:=h' }:=I.kept (t':=s.toks) fun b o e=>hx b o (Yu (Yp e)) e
 exact h pins _ σ H xs _ Q I1 (by simpa using rv) hw
def gSub(to ti:TE)(t:TSet):TG:=fun v σ H Q=>to σ H fun o H1=>ti σ H1 fun i H2=>t o i v H2 fun H3=>Q σ H3
theorem Zz511{o i:Expr}{to ti:TE}{t:TSet}(ho:PE X o to)(hi:PE X i ti)(hs:PSet X t)
  (ha:∀ v,assign (.Subscript o i pos) X.env v=(do
   let ov <- holding [v] (eval o X.env)
   let iv <- holding [v,ov] (eval i X.env)
   standAt pos
   holding [v,ov,iv] (setItem ov iv v)
   release [v,ov,iv] []):=by intro _;rfl):PG X (.Subscript o i pos) (gSub to ti t):=by intro pins s σ H v u Q I r h;rw[ha];refine Yy4 (Y0G (thn (ho pins s σ H _ I h) fun ov s1 hz0=>?_));obtain⟨x,H1,I1,r1,q1⟩:=hz0;refine Yy4 (Y0G (thn (hi pins s1 σ H1 _ I1 q1) fun iv s2 hz0=>?_));obtain⟨y,H2,I2,r2,q2⟩:=hz0;refine Yy4 (wpAny_standAt (Yy4 (Y0G (thn (hs pins s2 σ H2 x y v ov iv u _ I2 r1 r2 r q2) fun _ s3 hz0=>?_))));obtain⟨H3,I3,q3⟩:=hz0;exact wpAny_release ⟨σ,H3,I3,q3⟩
def tAsg(te:TE)(g:TG):TS:=fun D σ H=>te σ H fun x H1=>g x σ H1 D.nx
theorem Zi9{tg e:Expr}{te:TE}{g:TG}(he:PE X e te)(hg:PG X tg g)(hs:swapsWithSole [tg] e pos.line X.env=pure false:=by rfl)(hw:swappedStores [tg] e X.env=pure none:=by rfl)
  (h1:(assignEach [tg] X.env).map (·.2)=[assign tg X.env]:=by rfl):PS X (.Assign [tg] e pos) (tAsg te g):=by intro pins s σ H D I h;refine wpAny_Assign_stores (thn (he pins s σ H _ I h) fun v s1 hz0=>?_) hs hw;obtain⟨x,H1,I1,r1,q1⟩:=hz0;rw[h1];exact thn (hg pins s1 σ H1 x v _ I1 r1 q1) fun _ s2 q=>q
theorem Zf{i:Nat}{x:Str}{e:Expr}{te:TE}{pos':Pos}(hN:X.N.Nodup)(hi:X.N[i]?=some x)(hx:Loc X.env.scope x)(he:PE X e te)(hs:swapsWith e (some (.Name x pos')) pos.line X.env=pure false:=by rfl)(hf:X.fn x=true\/X.env.scope.names.lookup x=some .local:=by first | exact .inl rfl | exact .inr rfl | assumption) :
  PS X (.Assign [.Name x pos'] e pos) (tAsg te (ZA8 i)):=by intro pins s σ H D I h;refine wpAny_Assign_Name (thn (he pins s σ H _ I h) fun v s1 hz0=>?_) hs;obtain⟨y,H1,I1,r1,q1⟩:=hz0;exact ZF2 I1 hN hi hx r1 (fun s2 I2=>⟨_,H1,I2,q1⟩) hf
def tAug(i:Nat)(te:TE)(ti:TIp):TS:=fun D σ H=>∃ x,σ[i]?=some (some x)/\te σ H fun y H1=>ti x y H1 fun z H2=>D.nx (σ.set i (some z)) H2
theorem ZK12{i:Nat}{x:Str}{e:Expr}{te:TE}{op:Operator}{ti:TIp}{pos':Pos}(hN:X.N.Nodup)(hi:X.N[i]?=some x)(hx:Loc X.env.scope x)(he:PE X e te)(ho:PIp X op ti)(hf:X.fn x=true\/X.env.scope.names.lookup x=some .local:=by first | exact .inl rfl | exact .inr rfl | assumption) :
  PS X (.AugAssign (.Name x pos') op e pos) (tAug i te ti):=by
 intro pins s σ H D I h;obtain⟨v,e1,h⟩:=h;obtain⟨m,hn,hl⟩:=I.loc;have vis:Vis X.env.scope x:=by rcases hx with k | k;exact .inl k;exact .inr (.inl k)
 obtain⟨u,r,l⟩:=hl i x v hi e1 vis;refine wpAny_AugAssign_Name ?_;have go:wpAny (model X.prog X.w) X.A (eval e X.env) (fun w s₂=>wpAny (model X.prog X.w) X.A (inplaceOp op u w) (fun r s₃=>wpAny (model X.prog X.w) X.A (storeName X.env x r) (fun _=>SP X pins D .next) X.xe s₃) X.xe s₂) X.xe s:=by refine thn (he pins s σ H _ I h) fun w s1 hz0=>?_;obtain⟨y,H1,I1,r1,q1⟩:=hz0;refine thn (ho pins s1 σ H1 v y u w _ I1 r r1 q1) fun z s2 hz0=>?_;obtain⟨zv,H2,I2,r2,q2⟩:=hz0;exact ZF2 I2 hN hi hx r2 (fun s3 I3=>⟨_,H2,I3,q2⟩) hf
 rcases l with ⟨hk,hm⟩ | ⟨hk,c,hc,hcell⟩
 ·exact wpAny_loadName_local I.ok.kind hk hn hm go
 ·rcases hk with hk | hk
  ·exact wpAny_loadName_cell I.ok.kind hk hc hcell go
  ·rcases hx with k | k
   ·have:X.env.scope.names.lookup x=some .free:=hk
    rw[k]at this;cases this
   ·have:X.env.scope.names.lookup x=some .free:=hk
    rw[k]at this;cases this
def ZC13(to ti te:TE)(tget:V->V->Hp->VK->Prop)(tip:TIp)(tset:TSet):TS:=fun D σ H=>to σ H fun o H1=>ti σ H1 fun i H2=>tget o i H2 fun x H3=>te σ H3 fun y H4=>tip x y H4 fun z H5=>tset o i z H5 fun H6=>D.nx σ H6
def PGet(X:Cx)(t:V->V->Hp->VK->Prop):Prop :=
 ∀(pins:List (Addr × Obj)) (s:Shared) (σ:St) (H:Hp) (o i:V) (ov iv:Value) (Q:VK),Inv X pins σ H s->RelV o ov->RelV i iv->t o i H Q ->
  wpAny (model X.prog X.w) X.A (getItem ov iv) (EP X pins σ Q) X.xe s
theorem Zi4{o i e:Expr}{to ti te:TE}{tget:V->V->Hp->VK->Prop}{tip:TIp}{tset:TSet}{op:Operator}{tpos:Pos}(ho:PE X o to)(hi:PE X i ti)(hg:PGet X tget)(he:PE X e te)(hp:PIp X op tip)(hs:PSet X tset)
  (ha:∀ ov iv new,augStore i ov iv new=(do holding [new,ov,iv] (setItem ov iv new);release [new,ov,iv] [];pure .next):=by intros;rfl):PS X (.AugAssign (.Subscript o i tpos) op e pos) (ZC13 to ti te tget tip tset):=by intro pins s σ H D I h;refine wpAny_AugAssign_SubscriptAny (thn (ho pins s σ H _ I h) fun ov s1 hz0=>?_) ha;obtain⟨x1,H1,I1,r1,q1⟩:=hz0;refine thn (hi pins s1 σ H1 _ I1 q1) fun iv s2 hz0=>?_;obtain⟨x2,H2,I2,r2,q2⟩:=hz0;refine thn (hg pins s2 σ H2 x1 x2 ov iv _ I2 r1 r2 q2) fun old s3 hz0=>?_;obtain⟨x3,H3,I3,r3,q3⟩:=hz0;refine thn (he pins s3 σ H3 _ I3 q3) fun v s4 hz0=>?_;obtain⟨x4,H4,I4,r4,q4⟩:=hz0;refine thn (hp pins s4 σ H4 x3 x4 old v _ I4 r3 r4 q4) fun new s5 hz0=>?_;obtain⟨x5,H5,I5,r5,q5⟩:=hz0;exact thn (hs pins s5 σ H5 x1 x2 x5 ov iv new _ I5 r1 r2 r5 q5) fun _ s6 ⟨H6,I6,q6⟩=>⟨σ,H6,I6,q6⟩
def ipI(f:Int->Int->Int):TIp:=fun x y H Q=>∃ i j,x=.int i/\y=.int j/\Q (.int (f i j)) H
theorem ZD11:PIp X .Add (ipI fun i j=>i+j):=by intro pins s σ H x y v u Q I r1 r2 h;obtain⟨i,j,e1,e2,q⟩:=h;subst e1;subst e2;obtain⟨t,rfl⟩:=r1;obtain⟨t',rfl⟩:=r2;exact iadd_int ⟨.int _,H,I.tok _,⟨_,rfl⟩,q⟩
theorem ZM9:PIp X .Sub (ipI fun i j=>i - j):=by intro pins s σ H x y v u Q I r1 r2 h;obtain⟨i,j,e1,e2,q⟩:=h;subst e1;subst e2;obtain⟨t,rfl⟩:=r1;obtain⟨t',rfl⟩:=r2;exact isub_int ⟨.int _,H,I.tok _,⟨_,rfl⟩,q⟩
def Zr12(c:TT)(tb:TS):TS:=fun D σ H=>∃ W:Nat->St->Hp->Prop,(∃ m,W m σ H)/\∀ m σ H,W m σ H ->
 c σ H fun b H1=>if b=true then ∃ N:St->Hp->Prop,(∀ σ' H',N σ' H'->∃ m',m'<m/\W m' σ' H')/\tb { D with nx:=N,ct:=N,bk:=D.nx } σ H1 else D.nx σ H1
theorem ZT5{c:Expr}{body:List Stmt}{tc:TT}{tb:TS}(hp:PassesOwn (model X.prog X.w) X.A X.env X.xe)(hc:PT X c tc)(hb:PSs X body tb):PS X (.While c body [] pos) (Zr12 tc tb):=by
 intro pins s σ H D I h;obtain⟨W,⟨m0,w0⟩,turn⟩:=h;refine wpAny_While (codeAny_whileLoop (fun n s'=>∃ σ' H',Inv X pins σ' H' s'/\W n σ' H') ?_ m0 ⟨σ,H,I,w0⟩);rintro n s1 ⟨σ1,H1,I1,w1⟩;refine Y1f hp (thn (hc pins s1 σ1 H1 _ I1 (turn n σ1 H1 w1)) fun b s2 hz0=>?_);obtain⟨H2,I2,q2⟩:=hz0;cases b with
 | true =>
  obtain⟨N,hN,q2⟩:=q2;rw[if_pos rfl];refine Y1f hp (thn (hb pins s2 σ1 H2 _ I2 q2) fun f s3 q3=>?_);cases f with
  | next =>
   obtain⟨σ3,H3,I3,n3⟩:=q3;obtain⟨m',hm,w3⟩:=hN σ3 H3 n3;exact⟨m',hm,σ3,H3,I3,w3⟩
  | cont =>
   obtain⟨σ3,H3,I3,n3⟩:=q3;obtain⟨m',hm,w3⟩:=hN σ3 H3 n3;exact⟨m',hm,σ3,H3,I3,w3⟩
  | brk=>exact q3
  | ret v=>exact q3
 | false =>
  rw[if_neg Ys];exact Y2p ⟨σ1,H2,I2,q2⟩
end
structure It where
 go:Nat->Hp->Prop
 yld:Nat->Hp->V->Hp->Prop
 stop:Nat->Hp->Prop
def FpOk(X:Cx)(pins:List (Addr × Obj))(H:Hp)(b:Addr):Prop :=
 H b=none/\b≠X.env.locals/\b∉X.fs/\(b∈X.ex\/X.s₀.heap.objs.size<=b)/\(∀ x c,X.env.cells.lookup x=some c->c≠b)/\∀ p∈X.pn++pins,p.1≠b
theorem Inv.fpOk{X:Cx}{pins:List (Addr × Obj)}{σ:St}{H H':Hp}{s:Shared}{b:Addr}(I:Inv X pins σ H s)(hb:s.heap.objs.size<=b)(hn:H' b=none):FpOk X pins H' b:=by
 refine⟨hn,Y0K (Yq I.lt hb),I.nofs hb,.inr (YF I.sz hb),fun x c e z=>?_,fun p hp z=>?_⟩
 ·obtain⟨v,q⟩:=I.cell x c e;exact absurd (Yq q.lt (by rw[z];exact hb)) (Y0z _)
 ·exact absurd (Yq (Yp (I.pin p hp).1) (by rw[z];exact hb)) (Y0z _)
structure Turn (P:Program) (w:World) (K:PySem.W.Frag) (tg:Expr) (J:It) (fp:List Addr) (it:Addr) (tn:Nat->Heap->Prop):Prop where
 mem:it∈fp
 obj:∀ i h,tn i h->∀ b∈fp,∃ o,h.get? b=some o/\∀ v,o.data≠.cell v
 keep:∀ i h h',tn i h->(∀ b∈fp,∀ o,h.get? b=some o->h'.get? b=some o)->tn i h'
 item:∀(X:Cx),X.prog=P->X.w=w->X.K=K->X.calm=true->∀(i:Nat) (pins:List (Addr × Obj)) (s:Shared) (σ:St) (H:Hp) (E:Value->Shared->Prop),Inv X pins σ H s->(∀ b∈fp,FpOk X pins H b)->tn i s.heap->J.go i H ->
  wpAny (model P w) X.A (pyNext (.ref it)) (fun r s1=>∃ u,r=some u /\
   wpAny (model P w) X.A (letOwnedTupleGo tg (.ref it) u) (fun _ s2=>∃ x H',Inv X pins σ H' s2/\RelV x u/\J.yld i H x H'/\tn (i+1) s2.heap/\∀ b∈fp,H' b=none) E s1) E s
 done:∀(X:Cx),X.prog=P->X.w=w->X.K=K->X.calm=true->∀(i:Nat) (pins:List (Addr × Obj)) (s:Shared) (σ:St) (H:Hp) (E:Value->Shared->Prop),Inv X pins σ H s->(∀ b∈fp,FpOk X pins H b)->tn i s.heap->J.stop i H ->
  wpAny (model P w) X.A (pyNext (.ref it)) (fun r s1=>r=none/\Inv X pins σ H s1) E s
 self:∀(A:Around) (i:Nat) (s:Shared) (Q:Value->Shared->Prop) (E:Value->Shared->Prop),tn i s.heap->Q (.ref it) s->wpAny (model P w) A (pyIter (.ref it)) Q E s
abbrev TI:=St->Hp->(It->Hp->Prop)->Prop
def PIE(X:Cx)(pins:List (Addr × Obj))(σ:St)(tg:Expr)(R:It->Hp->Prop)(itv:Value)(s2:Shared):Prop :=
 ∃(it:Addr) (fp:List Addr) (tn:Nat->Heap->Prop) (J:It) (H':Hp),itv=.ref it/\Inv X pins σ H' s2/\Turn X.prog X.w X.K tg J fp it tn/\tn 0 s2.heap/\(∀ b∈fp,FpOk X pins H' b)/\R J H'
def PI(X:Cx)(tg iter:Expr)(wi:TI):Prop :=
 ∀(pins:List (Addr × Obj)) (s:Shared) (σ:St) (H:Hp) (R:It->Hp->Prop),Inv X pins σ H s->wi σ H R ->
  wpAny (model X.prog X.w) X.A (eval iter X.env) (fun v s1=>wpAny (model X.prog X.w) X.A (pyIter v) (PIE X pins σ tg R) X.xe s1) X.xe s
theorem Zz413{M:Model}{A:Around}{E:Value->Shared->Prop}{s:Shared}{tg:Expr}{it:Addr}{u:Value}{o:Obj}{n:String}{vs:Array Value}{Q:Unit->Shared->Prop}(ho:s.heap.get? it=some o)(hc:o.cls=.type n)(hd:o.data=.fields vs)
  (hn:["enumerate","zip","dict_itemiterator","dict_reverseitemiterator","odict_iterator","itertools.zip_longest","itertools.pairwise"].contains n=false) (hQ:Q () s):wpAny M A (letOwnedTupleGo tg (.ref it) u) Q E s:=by
 unfold letOwnedTupleGo;cases tg <;> first
  | exact Yn hQ
  | (cases u <;> first
    | exact Yn hQ
    | (refine Yy4 (Yy37 ho ?_)
       rw[hc,hd];show wpAny M A (if (["enumerate","zip","dict_itemiterator","dict_reverseitemiterator","odict_iterator","itertools.zip_longest","itertools.pairwise"].contains n && vs[0]? == some (rawInt _))=true then _ else _) Q E s
       rw[if_neg (by intro h;rw[hn,Bool.false_and]at h;cases h)];exact Yn hQ))
def Itl(K:PySem.W.Frag)(a:Addr):It :=
 ⟨fun i H=>∃ xs x,SqL K H a xs/\xs[i]?=some x,fun i H x H'=>H'=H/\∀ xs,SqL K H a xs->xs[i]?=some x,fun i H=>∃ xs,SqL K H a xs/\xs.length<=i⟩
def Itt(K:PySem.W.Frag)(a:Addr):It :=
 ⟨fun i H=>∃ xs x,SqT K H a xs/\xs[i]?=some x,fun i H x H'=>H'=H/\∀ xs,SqT K H a xs->xs[i]?=some x,fun i H=>∃ xs,SqT K H a xs/\xs.length<=i⟩
def Itr(lo:Int)(n:Nat):It:=⟨fun i _=>i<n,fun i H x H'=>H'=H/\x=.int (lo+i),fun i _=>n<=i⟩
theorem Zc4{P:Program}{w:World}{K:PySem.W.Frag}{tg:Expr}(a it:Addr):Turn P w K tg (Itl K a) [it] it (fun i h=>h.IsListIter it a i) where
 mem:=by simp
 obj:=fun i h st b hb=>by
  have e:b=it:=by simpa using hb
  subst e;obtain⟨o,e,c,d⟩:=st;exact⟨o,e,fun v z=>by rw[d]at z;cases z⟩
 keep:=fun i h h' st k=>st.at fun o e=>k it (by simp) o e
 item:=by
  intro X hP hw hK hc i pins s σ H E I hf st hg;subst hP hw hK;obtain⟨xs,x,hq,hx⟩:=hg;obtain⟨its,rv,p,hz⟩:=I.list hq;obtain⟨u,hu,ru⟩:=rv.get hx;obtain⟨f0,f1,f2,f3,f4,f5⟩:=hf it (by simp);refine wpAny_pyNext_list_item st p.isList (x:=u) (by simpa using hu) fun h' st' sb=>?_;have I1:Inv X pins σ H { s with heap:=h' }:=I.turned (t':=s.toks) (fun b o hb e=>(sb.2 b hb).trans e) f0 f1 f3 f4 f5
  obtain⟨o,e,c,d⟩:=id st';exact⟨u,rfl,Zz413 (s:={ s with heap:=h' }) e c d (by decide) ⟨x,H,I1,ru,⟨rfl,fun ys hy=>by rw[I.list_inj hy hq];exact hx⟩,st',fun b hb=>(hf b hb).1⟩⟩
 done:=by
  intro X hP hw hK hc i pins s σ H E I hf st hg;subst hP hw hK;obtain⟨xs,hq,hx⟩:=hg;obtain⟨its,rv,p,hz⟩:=I.list hq;obtain⟨f0,f1,f2,f3,f4,f5⟩:=hf it (by simp);have hl:=rv.length
  exact wpAny_pyNext_list_end (I.ok.hd hc) st p.isList (by simp;omega) fun h' eb=>⟨rfl,I.turned (t':=s.toks) (fun b o hb e=>eb b o hb e) f0 f1 f3 f4 f5⟩
 self:=fun _ _ _ _ _ st h=>wpAny_pyIter_listiter st h
theorem Zd3{P:Program}{w:World}{K:PySem.W.Frag}{tg:Expr}(a it:Addr):Turn P w K tg (Itt K a) [it] it (fun i h=>h.IsTupleIter it a i) where
 mem:=by simp
 obj:=fun i h st b hb=>by
  have e:b=it:=by simpa using hb
  subst e;obtain⟨o,e,c,d⟩:=st;exact⟨o,e,fun v z=>by rw[d]at z;cases z⟩
 keep:=fun i h h' st k=>st.at fun o e=>k it (by simp) o e
 item:=by
  intro X hP hw hK hc i pins s σ H E I hf st hg;subst hP hw hK;obtain⟨xs,x,hq,hx⟩:=hg;obtain⟨its,rv,p,hz⟩:=I.tuple hq;obtain⟨u,hu,ru⟩:=rv.get hx;obtain⟨f0,f1,f2,f3,f4,f5⟩:=hf it (by simp);refine wpAny_pyNext_tuple_item st (show s.heap.IsTuple a its.toArray from p) (x:=u) (by simpa using hu) fun h' st' sb=>?_;have I1:Inv X pins σ H { s with heap:=h' }:=I.turned (t':=s.toks) (fun b o hb e=>(sb.2 b hb).trans e) f0 f1 f3 f4 f5
  obtain⟨o,e,c,d⟩:=id st';exact⟨u,rfl,Zz413 (s:={ s with heap:=h' }) e c d (by decide) ⟨x,H,I1,ru,⟨rfl,fun ys hy=>by rw[I.tuple_inj hy hq];exact hx⟩,st',fun b hb=>(hf b hb).1⟩⟩
 done:=by
  intro X hP hw hK hc i pins s σ H E I hf st hg;subst hP hw hK;obtain⟨xs,hq,hx⟩:=hg;obtain⟨its,rv,p,hz⟩:=I.tuple hq;obtain⟨f0,f1,f2,f3,f4,f5⟩:=hf it (by simp);have hl:=rv.length
  exact wpAny_pyNext_tuple_end (I.ok.hd hc) st (show s.heap.IsTuple a its.toArray from p) (by simp;omega) fun h' eb=>⟨rfl,I.turned (t':=s.toks) (fun b o hb e=>eb b o hb e) f0 f1 f3 f4 f5⟩
 self:=fun _ _ _ _ _ st h=>wpAny_pyIter_tupleiter st h
theorem Zx5{P:Program}{w:World}{K:PySem.W.Frag}{tg:Expr}(it:Addr)(lo:Int)(n:Nat):Turn P w K tg (Itr lo n) [it] it (fun i h=>IsRangeIter h it (lo+(i:Nat) * 1) ((n:Int) - (i:Nat)) 1) where
 mem:=by simp
 obj:=fun i h st b hb=>by
  have e:b=it:=by simpa using hb
  subst e;exact⟨_,st,fun v z=>by have z':Data.fields _=Data.cell v:=z;cases z'⟩
 keep:=fun i h h' st k=>k it (by simp) _ st
 item:=by
  intro X hP hw hK hc i pins s σ H E I hf st hg;subst hP hw hK;obtain⟨f0,f1,f2,f3,f4,f5⟩:=hf it (by simp);have W:=Walks.range (prog:=X.prog) (w:=X.w) (I.ok.hd hc) it lo 1 n
  refine W.item i s _ _ hg st fun v h' tk hv st' kk=>?_;obtain⟨t,rfl⟩:=hv;have I1:Inv X pins σ H { s with heap:=h',toks:=tk }:=I.turned (fun b o hb e=>kk b o (by simpa using hb) e) f0 f1 f3 f4 f5
  refine⟨_,rfl,Zz413 (s:={ s with heap:=h',toks:=tk }) (n:="range_iterator") st' rfl rfl (by decide) ⟨.int (lo+i),H,I1,⟨t,?_⟩,⟨rfl,rfl⟩,st',fun b hb=>(hf b hb).1⟩⟩;rw[Y1n]
 done:=by intro X hP hw hK hc i pins s σ H E I hf st hg;subst hP hw hK;obtain⟨f0,f1,f2,f3,f4,f5⟩:=hf it (by simp);exact wpAny_pyNext_range_end (I.ok.hd hc) st (by have:n<=i:=hg;omega) fun h' eb=>⟨rfl,I.turned (t':=s.toks) (fun b o hb e=>eb b o hb e) f0 f1 f3 f4 f5⟩
 self:=fun _ _ _ _ _ st h=>wpAny_pyIter_rangeiter st h
section
variable{X:Cx}{tg:Expr}
def Zr13(K:PySem.W.Frag)(tl:TE):TI:=fun σ H R=>tl σ H fun x H1=>∃ a,x=.ref a/\(∃ xs,SqL K H1 a xs)/\R (Itl K a) H1
def iTup(K:PySem.W.Frag)(tl:TE):TI:=fun σ H R=>tl σ H fun x H1=>∃ a,x=.ref a/\(∃ xs,SqT K H1 a xs)/\R (Itt K a) H1
theorem Zz311{l:Expr}{tl:TE}(hl:PE X l tl):PI X tg l (Zr13 X.K tl):=by
 intro pins s σ H R I h;refine thn (hl pins s σ H _ I h) fun v s1 hz0=>?_;obtain⟨x,H1,I1,r1,q1⟩:=hz0;obtain⟨a,e,⟨xs,hq⟩,q⟩:=q1;subst e;cases r1;obtain⟨its,rv,p,hz⟩:=I1.list hq;refine Yy28 p.isList ?_;refine⟨s1.heap.objs.size,[s1.heap.objs.size],_,_,H1,rfl,I1.kept (t':=s1.toks) fun b o e=>Yy5 _ e,Zc4 a _,⟨_,Yo _ rfl,rfl,rfl⟩,fun b hb=>?_,q⟩;have e:b=s1.heap.objs.size:=by simpa using hb
 subst e;exact I1.fpOk (Yy7 _) (I1.hok.fresh (Yy7 _))
theorem ZN12{l:Expr}{tl:TE}(hl:PE X l tl):PI X tg l (iTup X.K tl):=by
 intro pins s σ H R I h;refine thn (hl pins s σ H _ I h) fun v s1 hz0=>?_;obtain⟨x,H1,I1,r1,q1⟩:=hz0;obtain⟨a,e,⟨xs,hq⟩,q⟩:=q1;subst e;cases r1;obtain⟨its,rv,p,hz⟩:=I1.tuple hq;refine wpAny_pyIter_tuple (show s1.heap.IsTuple a its.toArray from p) ?_;refine⟨s1.heap.objs.size,[s1.heap.objs.size],_,_,H1,rfl,I1.kept (t':=s1.toks) fun b o e=>Yy5 _ e,Zd3 a _,⟨_,Yo _ rfl,rfl,rfl⟩,fun b hb=>?_,q⟩;have e:b=s1.heap.objs.size:=by simpa using hb
 subst e;exact I1.fpOk (Yy7 _) (I1.hok.fresh (Yy7 _))
theorem ZP5{pins:List (Addr × Obj)}{σ:St}{H:Hp}{s:Shared}{R:It->Hp->Prop}{E:Value->Shared->Prop}{lo hi:Int}{t u v:Tok}{tk:Nat}(I:Inv X pins σ H s)(h1:-(2 ^ 62)<=lo)(h2:lo<2 ^ 62)(h3:-(2 ^ 62)<=hi)(h4:hi<2 ^ 62)
  (q:R (Itr lo (hi - lo).toNat) H):wpAny (model X.prog X.w) X.A (pyIter (.ref s.heap.objs.size)) (PIE X pins σ tg R) E { s with heap:=s.heap.push { cls:=.type "range",data:=.fields #[.int lo t,.int hi u,.int 1 v] },toks:=tk }:=by
 refine wpAny_pyIter_range (IsRange.new ..) (small_one h1 h2 h3 h4) ?_;have I1:Inv X pins σ H { s with heap:=s.heap.push { cls:=.type "range",data:=.fields #[.int lo t,.int hi u,.int 1 v] },toks:=tk }:=I.kept fun b o e=>Yy5 _ e
 refine⟨(s.heap.push { cls:=.type "range",data:=.fields #[.int lo t,.int hi u,.int 1 v] }).objs.size,[(s.heap.push { cls:=.type "range",data:=.fields #[.int lo t,.int hi u,.int 1 v] }).objs.size],_,_,H,rfl,
  I1.kept (t':=tk) fun b o e=>Yy5 _ e,Zx5 _ lo (hi - lo).toNat,?_,fun b hb=>?_,q⟩
 ·have e1:lo+((0:Nat):Int) * 1=lo:=by simp
  have e2:(((hi - lo).toNat:Nat):Int) - ((0:Nat):Int)=Builtin.Range.rangeSize lo hi 1:=by rw[rangeSize_one];split <;> omega
  show IsRangeIter _ _ (lo+((0:Nat):Int) * 1) ((((hi - lo).toNat:Nat):Int) - ((0:Nat):Int)) 1;rw[e1,e2];exact Yo _ rfl
 ·have e:b=(s.heap.push { cls:=.type "range",data:=.fields #[.int lo t,.int hi u,.int 1 v] }).objs.size:=by simpa using hb
  subst e;exact I1.fpOk (Yy7 _) (I1.hok.fresh (Yy7 _))
def ZT13(ta:TA):TI:=fun σ H R=>ta σ H fun vs H1=>∃ j:Int,vs=[.int j]/\-(2 ^ 62)<=j/\j<2 ^ 62/\R (Itr 0 j.toNat) H1
def ZS13(ta:TA):TI:=fun σ H R=>ta σ H fun vs H1=>∃ i j:Int,vs=[.int i,.int j]/\(-(2 ^ 62)<=i/\i<2 ^ 62/\-(2 ^ 62)<=j/\j<2 ^ 62)/\R (Itr i (j - i).toNat) H1
theorem ZW1 {a:Expr} {ta:TA} {p pos:Pos} (hg:Gl X "range") (hm:X.mg "range"=none) (ha:PA X [a] ta) (hs:starEach [a] X.env=[(false,eval a X.env)]:=by rfl):PI X tg (.Call (.Name "range" p) [a] [] pos) (ZT13 ta):=by
 intro pins s σ H R I h;refine Call_ (ZR2 I hg hm boot_range (Y0n (thn (ha pos pins s σ H _ I h) fun us s1 hz0=>?_) hs rfl));obtain⟨vs,H1,I1,r1,q1⟩:=hz0;obtain⟨j,e,q1,q2,q⟩:=q1;subst e;cases r1 with
 | cons r rr =>
  cases rr;obtain⟨t,rfl⟩:=r;exact call_range_1 (ZP5 I1 (by omega) (by omega) q1 q2 (by simpa using q))
theorem Zp7 {a b:Expr} {ta:TA} {p pos:Pos} (hg:Gl X "range") (hm:X.mg "range"=none) (ha:PA X [a,b] ta) (hs:starEach [a,b] X.env=[(false,eval a X.env),(false,eval b X.env)]:=by rfl) (hs2:starEach [b] X.env=[(false,eval b X.env)]:=by rfl) :
  PI X tg (.Call (.Name "range" p) [a,b] [] pos) (ZS13 ta):=by
 intro pins s σ H R I h;refine Call_ (ZR2 I hg hm boot_range (Y0n (thn (ha pos pins s σ H _ I h) fun us s1 ⟨vs,H1,I1,r1,q1⟩=>?_) (by rw[hs,hs2]) (by rw[hs2];rfl)));obtain⟨i,j,e,⟨q1,q2,q3,q4⟩,q⟩:=q1;subst e;cases r1 with
 | cons r rr =>
  cases rr with
  | cons r' rr =>
   cases rr;obtain⟨t,rfl⟩:=r;obtain⟨t',rfl⟩:=r';exact call_range_2 (ZP5 I1 q1 q2 q3 q4 q)
def tFor(wi:TI)(g:TG)(tb:TS):TS:=fun D σ H=>wi σ H fun J H1=>∃ W:Nat->Nat->St->Hp->Prop,(∃ m,W 0 m σ H1)/\∀ i m σ H,W i m σ H ->
 (J.stop i H/\D.nx σ H)\/(J.go i H/\∃ N:St->Hp->Prop,(∀ σ' H',N σ' H'->∃ m',m'<m/\W (i+1) m' σ' H')/\∀ x H',J.yld i H x H'->g x σ H' fun σ2 H2=>tb { D with nx:=N,ct:=N,bk:=D.nx } σ2 H2)
def ZL2(fp:List Addr)(h:Heap):List (Addr × Obj):=fp.filterMap fun b=>(h.get? b).map fun o=>(b,o)
theorem ZC1{fp:List Addr}{h:Heap}{b:Addr}{o:Obj}(hb:b∈fp)(e:h.get? b=some o):(b,o)∈ZL2 fp h:=List.mem_filterMap.mpr ⟨b,hb,by rw[e];rfl⟩
theorem Zm4{fp:List Addr}{h:Heap}{p:Addr × Obj}(hp:p∈ZL2 fp h):p.1∈fp/\h.get? p.1=some p.2:=by
 obtain⟨b,hb,e⟩:=List.mem_filterMap.mp hp;cases q:h.get? b with
 | none=>rw[q]at e;cases e
 | some o =>
  rw[q]at e;have e':(b,o)=p:=Yc e
  subst e';exact⟨hb,q⟩
theorem Inv.pinned{pins:List (Addr × Obj)}{σ:St}{H:Hp}{s:Shared}{fp:List Addr}(I:Inv X pins σ H s)(hf:∀ b∈fp,FpOk X pins H b)(ho:∀ b∈fp,∃ o,s.heap.get? b=some o/\∀ v,o.data≠.cell v):Inv X (pins++ZL2 fp s.heap) σ H s :=
 I.pins_of fun p hp=>(Yy9.mp hp).elim (fun z=>I.pin p (Yd _ z)) fun z=>by obtain⟨hb,e⟩:=Zm4 z;obtain⟨f0,f1,f2,_⟩:=hf p.1 hb;obtain⟨o,e',d⟩:=ho p.1 hb;rw[e]at e';cases e';exact⟨e,f0,f1,f2,d⟩
theorem Inv.unpinned{pins pl:List (Addr × Obj)}{σ:St}{H:Hp}{s:Shared}(I:Inv X (pins++pl) σ H s):Inv X pins σ H s:=I.pins_of fun p hp=>I.pin p (Yd _ (Yk _ hp))
theorem Ze1{iter:Expr}{body:List Stmt}{wi:TI}{g:TG}{tb:TS}{pos:Pos}(hp:PassesOwn (model X.prog X.w) X.A X.env X.xe)(hc:X.calm=true)(hi:PI X tg iter wi)(hg:PG X tg g)(hb:PSs X body tb)
  (hs:∀ x,foldedSetIterable iter X.env x=pure x:=by intro _;rfl):PS X (.For tg iter body [] pos) (tFor wi g tb):=by
 intro pins s σ H D I h;refine wpAny_For (thn (hi pins s σ H _ I h) fun v s1 h1=>thn h1 fun itv s2 h2=>?_) hs;obtain⟨it,fp,tn,J,H2,e,I2,T,st2,f2,W,⟨m0,w0⟩,turn⟩:=h2;subst e;have stat:∀ {H':Hp},(∀ b∈fp,H' b=none)->∀ b∈fp,FpOk X pins H' b:=fun hn b hb=>⟨hn b hb,(f2 b hb).2⟩
 refine codeAny_forLoop_any (fun n s'=>∃ i σ' H',Inv X pins σ' H' s'/\tn i s'.heap/\(∀ b∈fp,H' b=none)/\W i n σ' H') ?_ m0 ⟨0,σ,H2,I2,st2,fun b hb=>(f2 b hb).1,w0⟩;rintro n s3 ⟨i,σ3,H3,I3,st3,fr3,w3⟩;rcases turn i n σ3 H3 w3 with ⟨stop,qn⟩ | ⟨go,N,hN,step⟩
 ·refine Y1f hp (thn (T.done X rfl rfl rfl hc i pins s3 σ3 H3 X.xe I3 (stat fr3) st3 stop) fun r s4 ⟨hr,I4⟩=>?_);subst hr;exact Y2p ⟨σ3,H3,I4,qn⟩
 ·refine Y1f hp (thn (T.item X rfl rfl rfl hc i pins s3 σ3 H3 X.xe I3 (stat fr3) st3 go) fun r s4 hz0=>?_);obtain⟨u,hr,h4⟩:=hz0;subst hr;refine Y1f hp (thn h4 fun _ s5 hz0=>?_);obtain⟨x,H5,I5,r5,y5,st5,fr5⟩:=hz0;have I5':=I5.pinned (stat fr5) (T.obj _ _ st5)
  refine Y1f hp (thn (hg _ s5 σ3 H5 x u _ I5' r5 (step x H5 y5)) fun _ s6 hz0=>?_);obtain⟨σ6,H6,I6,q6⟩:=hz0;refine Y1f hp (thn (hb _ s6 σ6 H6 _ I6 q6) fun f s7 q7=>?_);have again:∀ {σ7:St} {H7:Hp},Inv X (pins++ZL2 fp s5.heap) σ7 H7 s7->N σ7 H7->∃ m,m<n/\∃ i σ' H',Inv X pins σ' H' s7/\tn i s7.heap/\(∀ b∈fp,H' b=none)/\W i m σ' H':=fun {σ7 H7} I7 n7=>by obtain⟨m',hm,w7⟩:=hN σ7 H7 n7;refine⟨m',hm,i+1,σ7,H7,I7.unpinned,T.keep _ _ _ st5 fun b hb o e=>(I7.pin (b,o) (Yd _ (Yd _ (ZC1 hb e)))).1,fun b hb=>?_,w7⟩;obtain⟨o,e,d⟩:=T.obj _ _ st5 b hb;exact(I7.pin (b,o) (Yd _ (Yd _ (ZC1 hb e)))).2.1
  cases f with
  | next=>obtain⟨σ7,H7,I7,n7⟩:=q7;exact again I7 n7
  | cont=>obtain⟨σ7,H7,I7,n7⟩:=q7;exact again I7 n7
  | brk=>obtain⟨σ7,H7,I7,q7⟩:=q7;exact⟨σ7,H7,I7.unpinned,q7⟩
  | ret v=>obtain⟨x7,σ7,H7,I7,r7,q7⟩:=q7;exact⟨x7,σ7,H7,I7.unpinned,r7,q7⟩
end
theorem Zi2{K:PySem.W.Frag}{a:Addr}{xs:List V}{g:TG}{tb:TS}{D:Ends}{σ:St}{H:Hp}(Pv:Nat->St->Hp->Prop)(h0:Pv 0 σ H)(hl:∀ i σ H,i<=xs.length->Pv i σ H->SqL K H a xs)
  (hs:∀ i x σ H,xs[i]?=some x->Pv i σ H->g x σ H fun σ2 H2=>tb { D with nx:=Pv (i+1),ct:=Pv (i+1),bk:=D.nx } σ2 H2) (hd:∀ σ H,Pv xs.length σ H->D.nx σ H) :
  ∃ W:Nat->Nat->St->Hp->Prop,(∃ m,W 0 m σ H)/\∀ i m σ H,W i m σ H ->
   ((Itl K a).stop i H/\D.nx σ H)\/((Itl K a).go i H/\∃ N:St->Hp->Prop,(∀ σ' H',N σ' H'->∃ m',m'<m/\W (i+1) m' σ' H')/\∀ x H',(Itl K a).yld i H x H'->g x σ H' fun σ2 H2=>tb { D with nx:=N,ct:=N,bk:=D.nx } σ2 H2):=by
 refine⟨fun i m σ H=>m=xs.length - i/\i<=xs.length/\Pv i σ H,⟨xs.length,by simp,Yj _,h0⟩,?_⟩;rintro i m σ H ⟨rfl,hi,p⟩;have q:=hl i σ H hi p
 by_cases hlt:i<xs.length
 ·refine .inr ⟨⟨xs,xs[i],q,by simp[hlt]⟩,Pv (i+1),fun σ' H' p'=>⟨xs.length - (i+1),by omega,rfl,hlt,p'⟩,fun x H' y=>?_⟩;obtain⟨e,y⟩:=y;subst e;exact hs i x σ _ (y xs q) p
 ·have e:i=xs.length:=by omega
  subst e;exact .inl ⟨⟨xs,q,Yy7 _⟩,hd σ H p⟩
theorem ZD4{K:PySem.W.Frag}{a:Addr}{xs:List V}{g:TG}{tb:TS}{D:Ends}{σ:St}{H:Hp}(Pv:Nat->St->Hp->Prop)(h0:Pv 0 σ H)(hl:∀ i σ H,i<=xs.length->Pv i σ H->SqT K H a xs)
  (hs:∀ i x σ H,xs[i]?=some x->Pv i σ H->g x σ H fun σ2 H2=>tb { D with nx:=Pv (i+1),ct:=Pv (i+1),bk:=D.nx } σ2 H2) (hd:∀ σ H,Pv xs.length σ H->D.nx σ H) :
  ∃ W:Nat->Nat->St->Hp->Prop,(∃ m,W 0 m σ H)/\∀ i m σ H,W i m σ H ->
   ((Itt K a).stop i H/\D.nx σ H)\/((Itt K a).go i H/\∃ N:St->Hp->Prop,(∀ σ' H',N σ' H'->∃ m',m'<m/\W (i+1) m' σ' H')/\∀ x H',(Itt K a).yld i H x H'->g x σ H' fun σ2 H2=>tb { D with nx:=N,ct:=N,bk:=D.nx } σ2 H2):=by
 refine⟨fun i m σ H=>m=xs.length - i/\i<=xs.length/\Pv i σ H,⟨xs.length,by simp,Yj _,h0⟩,?_⟩;rintro i m σ H ⟨rfl,hi,p⟩;have q:=hl i σ H hi p
 by_cases hlt:i<xs.length
 ·refine .inr ⟨⟨xs,xs[i],q,by simp[hlt]⟩,Pv (i+1),fun σ' H' p'=>⟨xs.length - (i+1),by omega,rfl,hlt,p'⟩,fun x H' y=>?_⟩;obtain⟨e,y⟩:=y;subst e;exact hs i x σ _ (y xs q) p
 ·have e:i=xs.length:=by omega
  subst e;exact .inl ⟨⟨xs,q,Yy7 _⟩,hd σ H p⟩
theorem ZZ2{lo:Int}{n:Nat}{g:TG}{tb:TS}{D:Ends}{σ:St}{H:Hp}(Pv:Nat->St->Hp->Prop)(h0:Pv 0 σ H)
  (hs:∀ i σ H,i<n->Pv i σ H->g (.int (lo+i)) σ H fun σ2 H2=>tb { D with nx:=Pv (i+1),ct:=Pv (i+1),bk:=D.nx } σ2 H2) (hd:∀ σ H,Pv n σ H->D.nx σ H) :
  ∃ W:Nat->Nat->St->Hp->Prop,(∃ m,W 0 m σ H)/\∀ i m σ H,W i m σ H ->
   ((Itr lo n).stop i H/\D.nx σ H)\/((Itr lo n).go i H/\∃ N:St->Hp->Prop,(∀ σ' H',N σ' H'->∃ m',m'<m/\W (i+1) m' σ' H')/\∀ x H',(Itr lo n).yld i H x H'->g x σ H' fun σ2 H2=>tb { D with nx:=N,ct:=N,bk:=D.nx } σ2 H2):=by
 refine⟨fun i m σ H=>m=n - i/\i<=n/\Pv i σ H,⟨n,by simp,Yj _,h0⟩,?_⟩;rintro i m σ H ⟨rfl,hi,p⟩;by_cases hlt:i<n
 ·refine .inr ⟨hlt,Pv (i+1),fun σ' H' p'=>⟨n - (i+1),by omega,rfl,hlt,p'⟩,fun x H' y=>?_⟩;obtain⟨e,y⟩:=y;subst e y;exact hs i σ _ hlt p
 ·have e:i=n:=by omega
  subst e;exact .inl ⟨Yy7 _,hd σ H p⟩
abbrev R2:=V->V->Hp->VK->Prop
def OpR(X:Cx)(f:Value->Value->Sem Value)(r:R2):Prop :=
 ∀(pins:List (Addr × Obj)) (s:Shared) (σ:St) (H:Hp) (x y:V) (v u:Value) (Q:VK),Inv X pins σ H s->RelV x v->RelV y u->r x y H Q ->
  wpAny (model X.prog X.w) X.A (f v u) (EP X pins σ Q) X.xe s
def UnR(X:Cx)(f:Value->Sem Value)(r:V->Hp->VK->Prop):Prop :=
 ∀(pins:List (Addr × Obj)) (s:Shared) (σ:St) (H:Hp) (x:V) (v:Value) (Q:VK),Inv X pins σ H s->RelV x v->r x H Q ->
  wpAny (model X.prog X.w) X.A (f v) (EP X pins σ Q) X.xe s
def Zb3(X:Cx)(f:Value)(r:List V->Hp->VK->Prop):Prop :=
 ∀(pins:List (Addr × Obj)) (s:Shared) (σ:St) (H:Hp) (xs:List V) (us:List Value) (Q:VK),Inv X pins σ H s->Vals xs us->r xs H Q ->
  wpAny (model X.prog X.w) X.A (call f us) (EP X pins σ Q) X.xe s
def tOp(r:R2)(ta tb:TE):TE:=fun σ H Q=>ta σ H fun x H1=>tb σ H1 fun y H2=>r x y H2 Q
def tUn(r:V->Hp->VK->Prop)(ta:TE):TE:=fun σ H Q=>ta σ H fun x H1=>r x H1 Q
def rI(C:Int->Int->Prop)(g:Int->Int->V):R2:=fun x y H Q=>∃ i j,x=.int i/\y=.int j/\C i j/\Q (g i j) H
def rI0(g:Int->Int->V):R2:=fun x y H Q=>∃ i j,x=.int i/\y=.int j/\Q (g i j) H
def rU(g:Int->V):V->Hp->VK->Prop:=fun x H Q=>∃ i,x=.int i/\Q (g i) H
section
variable{X:Cx}{a b:Expr}{ta tb:TE}{pos:Pos}
theorem binT(ha:PE X a ta)(hb:PE X b tb){pins:List (Addr × Obj)}{s:Shared}{σ:St}{H:Hp}{R:V->V->Hp->Prop}(I:Inv X pins σ H s)
  (h:ta σ H fun x H1=>tb σ H1 fun y H2=>R x y H2) {Q:Value->Shared->Prop} {f:Value->Value->Sem Value}
  (hf:∀ v u s2 x y H2,Inv X pins σ H2 s2->RelV x v->RelV y u->R x y H2->wpAny (model X.prog X.w) X.A (f v u) Q X.xe s2) :
  wpAny (model X.prog X.w) X.A (eval a X.env) (fun v s₁=>wpAny (model X.prog X.w) X.A (eval b X.env) (fun u s₂=>wpAny (model X.prog X.w) X.A (f v u) Q X.xe s₂) X.xe s₁) X.xe s:=by refine thn (ha pins s σ H _ I h) fun v s1 hz0=>?_;obtain⟨x,H1,I1,r1,q1⟩:=hz0;refine thn (hb pins s1 σ H1 _ I1 q1) fun u s2 hz0=>?_;obtain⟨y,H2,I2,r2,q2⟩:=hz0;exact hf v u s2 x y H2 I2 r1 r2 q2
theorem Zj{op:Operator}{r:R2}(ho:OpR X (binaryOp op) r)(ha:PE X a ta)(hb:PE X b tb):PE X (.BinOp a op b pos) (tOp r ta tb):=by intro pins s σ H Q I h;exact wpAny_BinOp (binT ha hb I h fun v u s2 x y H2 I2 rx ry q=>ho pins s2 σ H2 x y v u Q I2 rx ry q)
theorem Zh12{op:UnaryOp}{r:V->Hp->VK->Prop}(ho:UnR X (unaryOp op) r)(ha:PE X a ta):PE X (.UnaryOp op a pos) (tUn r ta):=by intro pins s σ H Q I h;exact UnaryOp_ (thn (ha pins s σ H _ I h) fun v s1 ⟨x,H1,I1,r1,q1⟩=>ho pins s1 σ H1 x v Q I1 r1 q1)
theorem opI{f:Value->Value->Sem Value}{C:Int->Int->Prop}{g:Int->Int->Int}
  (rule:∀(i j:Int) (t u:Tok) (s:Shared) (Q:Value->Shared->Prop) (E:Value->Shared->Prop),C i j->Q (.int (g i j) s.toks) { s with toks:=s.toks+1 }->wpAny (model X.prog X.w) X.A (f (.int i t) (.int j u)) Q E s) :
  OpR X f (rI C fun i j=>.int (g i j)):=by intro pins s σ H x y v u Q I rx ry h;obtain⟨i,j,rfl,rfl,hc,q⟩:=h;obtain⟨t,rfl⟩:=rx;obtain⟨t',rfl⟩:=ry;exact rule i j t t' s _ _ hc ⟨.int (g i j),H,I.tok _,⟨_,rfl⟩,q⟩
theorem opI0{f:Value->Value->Sem Value}{g:Int->Int->Int}
  (rule:∀(i j:Int) (t u:Tok) (s:Shared) (Q:Value->Shared->Prop) (E:Value->Shared->Prop),Q (.int (g i j) s.toks) { s with toks:=s.toks+1 }->wpAny (model X.prog X.w) X.A (f (.int i t) (.int j u)) Q E s) :
  OpR X f (rI0 fun i j=>.int (g i j)):=by intro pins s σ H x y v u Q I rx ry h;obtain⟨i,j,rfl,rfl,q⟩:=h;obtain⟨t,rfl⟩:=rx;obtain⟨t',rfl⟩:=ry;exact rule i j t t' s _ _ ⟨.int (g i j),H,I.tok _,⟨_,rfl⟩,q⟩
theorem opB0{f:Value->Value->Sem Value}{g:Int->Int->Bool}
  (rule:∀(i j:Int) (t u:Tok) (s:Shared) (Q:Value->Shared->Prop) (E:Value->Shared->Prop),Q (.bool (g i j)) s->wpAny (model X.prog X.w) X.A (f (.int i t) (.int j u)) Q E s) :
  OpR X f (rI0 fun i j=>.bl (g i j)):=by intro pins s σ H x y v u Q I rx ry h;obtain⟨i,j,rfl,rfl,q⟩:=h;obtain⟨t,rfl⟩:=rx;obtain⟨t',rfl⟩:=ry;exact rule i j t t' s _ _ ⟨.bl (g i j),H,I,rfl,q⟩
def CDiv(i j:Int):Prop:=0<j/\j<1073741824
def CPow(i j:Int):Prop:=0<=j/\j<=1000000/\i.natAbs<2 ^ 64
def CMul(i j:Int):Prop:=(-(2 ^ 64)<i/\i<2 ^ 64)\/(-(2 ^ 64)<j/\j<2 ^ 64)
theorem CMul.ok{i j:Int}(h:CMul i j):IntMulOk i j:=by
 rcases h with ⟨h1,h2⟩ | ⟨h1,h2⟩
 ·exact .of_left (intBits_le_64 h1 h2)
 ·exact .of_right (intBits_le_64 h1 h2)
theorem Zz01:OpR X (binaryOp .Add) (rI0 fun i j=>.int (i+j)):=opI0 fun _ _ _ _ _ _ _ q=>add_int q
theorem ZQ1:OpR X (binaryOp .Sub) (rI0 fun i j=>.int (i - j)):=opI0 fun _ _ _ _ _ _ _ q=>sub_int q
theorem ZB1:OpR X (binaryOp .Mult) (rI CMul fun i j=>.int (i * j)):=opI fun _ _ _ _ _ _ _ hc q=>mul_int q hc.ok
theorem Zm1:OpR X (binaryOp .FloorDiv) (rI CDiv fun i j=>.int (i / j)):=opI fun i j _ _ _ _ _ hc q=>by
 have h1:(0:Int)<j:=hc.1;have h2:j<1073741824:=hc.2
 exact floordiv_int (by omega) (by rw[Int.fdiv_eq_ediv_of_nonneg i (by omega)];exact q) (.inl (PyProof.noPylong_small (by omega)))
theorem ZC:OpR X (binaryOp .Mod) (rI (fun _ j=>0<j) fun i j=>.int (i % j)):=opI fun i j _ _ _ _ _ hc q=>by have h1:(0:Int)<j:=hc;exact mod_int' (by omega) (by rw[Int.fmod_eq_emod_of_nonneg i (by omega)];exact q)
theorem ZR1:OpR X (binaryOp .Pow) (rI CPow fun i j=>.int (i ^ j.toNat)):=opI fun _ _ _ _ _ _ _ hc q=>pow_int_small hc.1 hc.2.1 hc.2.2 q
theorem unI{f:Value->Sem Value}{g:Int->Int}
  (rule:∀(i:Int) (t:Tok) (s:Shared) (Q:Value->Shared->Prop) (E:Value->Shared->Prop),Q (.int (g i) s.toks) { s with toks:=s.toks+1 }->wpAny (model X.prog X.w) X.A (f (.int i t)) Q E s) :
  UnR X f (rU fun i=>.int (g i)):=by intro pins s σ H x v Q I rx h;obtain⟨i,rfl,q⟩:=h;obtain⟨t,rfl⟩:=rx;exact rule i t s _ _ ⟨.int (g i),H,I.tok _,⟨_,rfl⟩,q⟩
theorem Za7:UnR X (unaryOp .USub) (rU fun i=>.int (-i)):=unI fun _ _ _ _ _ q=>neg_int q
end
def scal:V->V->Bool
 | .non,.non=>true | .non,.int _=>true | .int _,.non=>true | .non,.bl _=>true | .bl _,.non=>true | .non,.str _=>true | .str _,.non=>true
 | .int _,.int _=>true | .bl _,.bl _=>true | .str _,.str _=>true | .byt _,.byt _=>true
 | .int _,.str _=>true | .str _,.int _=>true | .bl _,.str _=>true | .str _,.bl _=>true
 | _,_=>false
def rEq:R2:=fun x y H Q=>scal x y=true/\Q (.bl (decide (x=y))) H
def rNe:R2:=fun x y H Q=>scal x y=true/\Q (.bl (!decide (x=y))) H
theorem ZB{i j:Int}:decide (V.int i=V.int j)=(i == j):=by rw[Y0h];simp
theorem ZZ11{i j:Bool}:decide (V.bl i=V.bl j)=(i == j):=by rw[Y0h];simp
theorem ZF8{i j:Str}:decide (V.str i=V.str j)=(i == j):=by rw[Y0h];simp
theorem ZG8{i j:Array UInt8}:decide (V.byt i=V.byt j)=(i.toList == j.toList):=by rw[Y0h];cases i;cases j;simp
section
variable{X:Cx}{a b c:Expr}{ta tb tc:TE}{pos:Pos}
theorem ZJ{pins:List (Addr × Obj)}{σ:St}{H:Hp}{s:Shared}{Q:VK}{k k':Bool}(I:Inv X pins σ H s)(q:Q (.bl k) H)(e:k=k'):EP X pins σ Q (.bool k') s:=by subst e;exact⟨.bl k,H,I,rfl,q⟩
theorem Zd5:OpR X (compareOp .Eq) rEq:=by
 intro pins s σ H x y v u Q I rx ry h;obtain⟨hs,q⟩:=h;cases x with
 | non =>
  cases rx;cases y with
  | non=>cases ry;exact PySem.EqNone.eq_none_none (ZJ I q (by simp))
  | bl j=>cases ry;exact PySem.EqNone.eq_none_bool (ZJ I q (by simp))
  | int j=>obtain⟨t',rfl⟩:=ry;exact PySem.EqNone.eq_none_int (ZJ I q (by simp))
  | str j=>obtain⟨t',rfl⟩:=ry;exact PySem.EqNone.eq_none_str (ZJ I q (by simp))
  | _=>exact absurd (show false=true from hs) Ys
 | bl i =>
  cases rx;cases y with
  | non=>cases ry;exact PySem.EqNone.eq_bool_none (ZJ I q (by simp))
  | bl j=>cases ry;exact eq_bool (ZJ I q ZZ11)
  | str j=>obtain⟨t',rfl⟩:=ry;exact PySem.EqMixed.eq_bool_str (ZJ I q (by simp))
  | _=>exact absurd (show false=true from hs) Ys
 | int i =>
  obtain⟨t,rfl⟩:=rx;cases y with
  | non=>cases ry;exact PySem.EqNone.eq_int_none (ZJ I q (by simp))
  | int j=>obtain⟨t',rfl⟩:=ry;exact eq_int (ZJ I q ZB)
  | str j=>obtain⟨t',rfl⟩:=ry;exact PySem.EqMixed.eq_int_str (ZJ I q (by simp))
  | _=>exact absurd (show false=true from hs) Ys
 | str i =>
  obtain⟨t,rfl⟩:=rx;cases y with
  | non=>cases ry;exact PySem.EqNone.eq_str_none (ZJ I q (by simp))
  | bl j=>cases ry;exact PySem.EqMixed.eq_str_bool (ZJ I q (by simp))
  | int j=>obtain⟨t',rfl⟩:=ry;exact PySem.EqMixed.eq_str_int (ZJ I q (by simp))
  | str j=>obtain⟨t',rfl⟩:=ry;exact eq_str (ZJ I q ZF8)
  | _=>exact absurd (show false=true from hs) Ys
 | byt i =>
  obtain⟨t,rfl⟩:=rx;cases y with
  | byt j=>obtain⟨t',rfl⟩:=ry;exact PySem.W.eq_bytes (ZJ I q ZG8)
  | _=>exact absurd (show false=true from hs) Ys
 | _=>cases y <;> exact absurd (show false=true from hs) Ys
theorem ZZ5:OpR X (compareOp .NotEq) rNe:=by
 intro pins s σ H x y v u Q I rx ry h;obtain⟨hs,q⟩:=h;cases x with
 | non =>
  cases rx;cases y with
  | non=>cases ry;exact PySem.EqNone.ne_none_none (ZJ I q (by simp))
  | bl j=>cases ry;exact PySem.EqNone.ne_none_bool (ZJ I q (by simp))
  | int j=>obtain⟨t',rfl⟩:=ry;exact PySem.EqNone.ne_none_int (ZJ I q (by simp))
  | str j=>obtain⟨t',rfl⟩:=ry;exact PySem.EqNone.ne_none_str (ZJ I q (by simp))
  | _=>exact absurd (show false=true from hs) Ys
 | bl i =>
  cases rx;cases y with
  | non=>cases ry;exact PySem.EqNone.ne_bool_none (ZJ I q (by simp))
  | bl j=>cases ry;exact ne_bool (ZJ I q (Yy04 not ZZ11))
  | str j=>obtain⟨t',rfl⟩:=ry;exact PySem.EqMixed.ne_bool_str (ZJ I q (by simp))
  | _=>exact absurd (show false=true from hs) Ys
 | int i =>
  obtain⟨t,rfl⟩:=rx;cases y with
  | non=>cases ry;exact PySem.EqNone.ne_int_none (ZJ I q (by simp))
  | int j=>obtain⟨t',rfl⟩:=ry;exact ne_int (ZJ I q (Yy04 not ZB))
  | str j=>obtain⟨t',rfl⟩:=ry;exact PySem.EqMixed.ne_int_str (ZJ I q (by simp))
  | _=>exact absurd (show false=true from hs) Ys
 | str i =>
  obtain⟨t,rfl⟩:=rx;cases y with
  | non=>cases ry;exact PySem.EqNone.ne_str_none (ZJ I q (by simp))
  | bl j=>cases ry;exact PySem.EqMixed.ne_str_bool (ZJ I q (by simp))
  | int j=>obtain⟨t',rfl⟩:=ry;exact PySem.EqMixed.ne_str_int (ZJ I q (by simp))
  | str j=>obtain⟨t',rfl⟩:=ry;exact ne_str (ZJ I q (Yy04 not ZF8))
  | _=>exact absurd (show false=true from hs) Ys
 | byt i =>
  obtain⟨t,rfl⟩:=rx;cases y with
  | byt j=>obtain⟨t',rfl⟩:=ry;exact PySem.W.ne_bytes (ZJ I q (Yy04 not ZG8))
  | _=>exact absurd (show false=true from hs) Ys
 | _=>cases y <;> exact absurd (show false=true from hs) Ys
theorem Zz16:OpR X (compareOp .Lt) (rI0 fun i j=>.bl (decide (i<j))):=opB0 fun _ _ _ _ _ _ _ q=>lt_int q
theorem Zs10:OpR X (compareOp .LtE) (rI0 fun i j=>.bl (decide (i<=j))):=opB0 fun _ _ _ _ _ _ _ q=>le_int q
theorem Ze11:OpR X (compareOp .Gt) (rI0 fun i j=>.bl (decide (j<i))):=opB0 fun _ _ _ _ _ _ _ q=>gt_int q
theorem Zc11:OpR X (compareOp .Is) (fun x y H Q=>y=.non/\Q (.bl (decide (x=.non))) H):=by
 intro pins s σ H x y v u Q I rx ry h;obtain⟨rfl,q⟩:=h;cases ry;refine is_none_gen (ZJ I q ?_);cases x <;> first
  | (cases rx;rfl)
  | (obtain⟨t,rfl⟩:=rx;rfl)
theorem Zr(b:Expr){op:CmpOp}(h:op≠.In:=by decide)(h2:op≠.NotIn:=by decide):behindInMarks op b=false:=by
 have e1:(op == CmpOp.In)=false:=by cases op <;> first | rfl | exact absurd rfl h
 have e2:(op == CmpOp.NotIn)=false:=by cases op <;> first | rfl | exact absurd rfl h2
 cases b <;> simp[behindInMarks,e1,e2]
theorem Zc2{op:CmpOp}{r:R2}(ho:OpR X (compareOp op) r)(ha:PE X a ta)(hb:PE X b tb)(hm:behindInMarks op b=false):PE X (.Compare a [op] [b] pos) (tOp r ta tb):=by intro pins s σ H Q I h;exact wpAny_Compare1 (binT ha hb I h fun v u s2 x y H2 I2 rx ry q=>ho pins s2 σ H2 x y v u Q I2 rx ry q) hm
def Zn13(t:TE):TT:=fun σ H Q=>t σ H fun x H'=>∃ k,x=.bl k/\Q k H'
theorem Zg{op:CmpOp}{r:R2}(ho:OpR X (compareOp op) r)(ha:PE X a ta)(hb:PE X b tb)(hm:behindInMarks op b=false):PT X (.Compare a [op] [b] pos) (Zn13 (tOp r ta tb)):=by
 intro pins s σ H Q I h;refine wpAny_isTrue_Compare1 (thn (ha pins s σ H _ I h) fun v s1 ⟨x,H1,I1,r1,q1⟩=>thn (hb pins s1 σ H1 _ I1 q1) fun u s2 ⟨y,H2,I2,r2,q2⟩ =>
  thn (ho pins s2 σ H2 x y v u _ I2 r1 r2 q2) fun c s3 ⟨z,H3,I3,r3,k,e,q3⟩=>?_) hm
 subst e;cases r3;exact Yy10 ⟨H3,I3,q3⟩
def ZE10(r r':R2)(ta tb tc:TE):TE:=fun σ H Q=>ta σ H fun x H1=>tb σ H1 fun y H2=>r x y H2 fun z H3=>∃ k,z=.bl k /\
 (if k=true then tc σ H3 fun w' H4=>r' y w' H4 Q else Q (.bl false) H3)
theorem Zp9{op op':CmpOp}{r r':R2}(ho:OpR X (compareOp op) r)(ho':OpR X (compareOp op') r')(ha:PE X a ta)(hb:PE X b tb)(hc:PE X c tc)
  (hm:lastMarks [op,op'] [b,c]=false:=by with_unfolding_all rfl):PE X (.Compare a [op,op'] [b,c] pos) (ZE10 r r' ta tb tc):=by
 intro pins s σ H Q I h;refine Compare_chain (thn (ha pins s σ H _ I h) fun v s1 ⟨x,H1,I1,r1,q1⟩=>chain_link (thn (hb pins s1 σ H1 _ I1 q1) fun u s2 ⟨y,H2,I2,r2,q2⟩ =>
  thn (ho pins s2 σ H2 x y v u _ I2 r1 r2 q2) fun d s3 ⟨z,H3,I3,r3,k,e,q3⟩=>?_)) hm
 subst e;cases r3;refine Yy10 ?_;cases k with
 | false=>exact ite_ff ⟨.bl false,H3,I3,rfl,q3⟩
 | true=>exact ite_tt (chain_last (thn (hc pins s3 σ H3 _ I3 q3) fun w' s4 ⟨z',H4,I4,r4,q4⟩=>ho' pins s4 σ H4 y z' u w' Q I4 r2 r4 q4))
theorem ZO3{op op':CmpOp}{r r':R2}(ho:OpR X (compareOp op) r)(ho':OpR X (compareOp op') r')(ha:PE X a ta)(hb:PE X b tb)(hc:PE X c tc)
  (hm:lastMarks [op,op'] [b,c]=false:=by with_unfolding_all rfl):PT X (.Compare a [op,op'] [b,c] pos) (Zn13 (ZE10 r r' ta tb tc)):=by
 intro pins s σ H Q I h;refine isTrue_chain (thn (ha pins s σ H _ I h) fun v s1 ⟨x,H1,I1,r1,q1⟩=>test_link (thn (hb pins s1 σ H1 _ I1 q1) fun u s2 ⟨y,H2,I2,r2,q2⟩ =>
  thn (ho pins s2 σ H2 x y v u _ I2 r1 r2 q2) fun d s3 ⟨z,H3,I3,r3,k,e,q3⟩=>?_)) hm
 subst e;cases r3;refine Yy10 ?_;cases k with
 | false =>
  obtain⟨k',e',q'⟩:=q3;cases e';exact ite_ff ⟨H3,I3,q'⟩
 | true =>
  refine ite_tt (test_last (thn (hc pins s3 σ H3 _ I3 q3) fun w' s4 ⟨z',H4,I4,r4,q4⟩=>thn (ho' pins s4 σ H4 y z' u w' _ I4 r2 r4 q4) fun d' s5 hz0=>?_));obtain⟨z2,H5,I5,r5,k2,e2,q5⟩:=hz0;subst e2;cases r5;exact Yy10 ⟨H5,I5,q5⟩
theorem Zi6:(sizeLine:Nat)<2 ^ 63:=by rw[Y0M];decide
theorem Zz75{x:V}{us:List Value}(r:Vals [x] us):∃ u,us=[u]/\RelV x u:=by
 cases r with
 | cons r1 r2=>cases r2;exact⟨_,rfl,r1⟩
theorem Zq12{x y:V}{us:List Value}(r:Vals [x,y] us):∃ u w',us=[u,w']/\RelV x u/\RelV y w':=by
 cases r with
 | cons r1 r2 =>
  cases r2 with
  | cons r3 r4=>cases r4;exact⟨_,_,rfl,r1,r3⟩
theorem ZW7 (hc:X.calm=true):Zb3 X (.builtin "max") (fun xs H Q=>∃ i j,xs=[.int i,.int j]/\Q (.int (if j > i then j else i)) H):=by
 intro pins s σ H xs us Q I r h;obtain⟨i,j,rfl,q⟩:=h;obtain⟨u,w',rfl,⟨t,rfl⟩,⟨t',rfl⟩⟩:=Zq12 r;refine max_two_ints (I.ok.hd hc) fun h' tk k=>⟨_,H,I.kept k,?_,q⟩;by_cases hj:j > i
 ·rw[if_pos hj,if_pos hj];exact⟨_,rfl⟩
 ·rw[if_neg hj,if_neg hj];exact⟨_,rfl⟩
theorem ZV7 (hc:X.calm=true):Zb3 X (.builtin "min") (fun xs H Q=>∃ i j,xs=[.int i,.int j]/\Q (.int (if j<i then j else i)) H):=by
 intro pins s σ H xs us Q I r h;obtain⟨i,j,rfl,q⟩:=h;obtain⟨u,w',rfl,⟨t,rfl⟩,⟨t',rfl⟩⟩:=Zq12 r;refine min_two_ints (I.ok.hd hc) fun h' tk k=>⟨_,H,I.kept k,?_,q⟩;by_cases hj:j<i
 ·rw[if_pos hj,if_pos hj];exact⟨_,rfl⟩
 ·rw[if_neg hj,if_neg hj];exact⟨_,rfl⟩
end
structure ObjM (h:Heap) (x dx C:Addr) (mA:Str->Option Value):Prop where
 obj:h.get? x=some (PySem.W.instObj C dx)
 ns:h.Ns1 dx mA
 ne:dx≠x
theorem Zy7{h:Heap}{dx:Addr}{mA:Str->Option Value}(n:h.Ns1 dx mA):∃ od,h.get? dx=some od/\∀ name,PySem.W.lookIn name od=some (mA name):=by
 obtain⟨o,es,ep,ho,hd,hk,_,hm⟩:=n;refine⟨o,ho,fun name=>?_⟩;have e:=hm name
 unfold nsFind findBy at e;rw[<- Array.find?_toList]at e;unfold PySem.W.lookIn;rw[hd];dsimp only;split
 ·rename_i y q;rw[q]at e;exact Yy04 some e
 ·rename_i q;rw[q]at e;have a:es.toList.any (·.refKey)=false:=by rw[List.any_eq_false];intro y hy;obtain⟨z,t,hkey⟩:=hk y (Array.mem_toList_iff.mp hy);simp[DictEntry.refKey,hkey]
  have a':¬ es.toList.any (·.refKey)=true:=by rw[a];exact Ys
  rw[if_neg a'];exact Yy04 some e
theorem ObjM.look{h:Heap}{x dx C:Addr}{mA:Str->Option Value}(I:ObjM h x dx C mA):∃ od,PySem.W.InstAt h x (PySem.W.instObj C dx) C (some od)/\∀ name,PySem.W.lookIn name od=some (mA name) :=
 let ⟨od,ho,hl⟩:=Zy7 I.ns
 ⟨od,⟨I.obj,rfl,rfl,ho⟩,hl⟩
section
variable{prog:Program}{w:World}{A:Around}{E:Value->Shared->Prop}{s:Shared}{K:PySem.W.Frag}{x dx C f:Addr}{mA:Str->Option Value}{name:Str}{v:Value}
theorem ZK11{expr:Bool}{Q:Value->Shared->Prop}(X:K.In s.heap)(I:ObjM s.heap x dx C mA)(hg:PySem.W.plainGet K C name=true)(hh:PySem.W.hasDictIn K C=true)
  (ha:PySem.W.findIn K (.ref C) name=some none) (hv:mA name=some v) (hv':PySem.W.handedIn v=true) (h:Q v { s with toks:=s.toks+1 }) :
  wpAny (model prog w) A (getAttr (.ref x) name expr) Q E s:=by obtain⟨od,J,hl⟩:=I.look;exact PySem.W.get_value X J (PySem.W.plainGet_of hg).1 (PySem.W.findObj_own hh ha rfl (by rw[hl,hv])) hv' h
theorem ZL10{ns:List Str}{Q:Unit->Shared->Prop}(X:K.In s.heap)(I:ObjM s.heap x dx C mA)
  (hs:PySem.W.findIn K (.ref C) "__setattr__"=some (some (.builtin "object.__setattr__"))) (hp:PySem.W.plainOver K C=true) (ht:PySem.W.takerIn K C name=some none) (hh:PySem.W.hasDictIn K C=true)
  (hw:PySem.Within mA ns) (hsz:ns.length<=sizeLine)
  (h:∀ h',ObjM h' x dx C (fun y=>if y=name then some v else mA y)->Heap.SameBut dx s.heap h'->Q () { s with heap:=h',toks:=s.toks+2 }) :
  wpAny (model prog w) A (setAttr (.ref x) name v) Q E s:=by
 obtain⟨od,J,hl⟩:=I.look;refine PySem.W.set_plain X J hs (PySem.W.osa_open (s:={ s with toks:=s.toks+1 }) (r:=none) X J hp ht fun b=>?_);obtain⟨cd,hc,hd'⟩:=PySem.W.any_some hh;have hx:s.heap.get? x=some ⟨.ref C,some dx,.plain,#[]⟩:=I.obj
 refine Yy4 (Yn (Yy4 (Yy4 (wpAny_loadPart hx (Yy4 (PySem.W.Looks.here (s:={ s with toks:=s.toks+1 }) (PySem.W.looks_clsIn X hc) ?_))))));rw[hd'];refine Yn (a:=some dx) (Yy4 (Yn (Yy4 ?_)));refine wpAny_nsSet1 (s:={ s with toks:=s.toks+1 }) I.ns fun h' hn2 hs2=>?_;obtain⟨oD,esD,epD,hoD,hdD,hcD⟩:=hn2.count (PySem.Within.cons name v hw);refine Yy4 (wpAny_lookBehind hoD (by rw[hdD];exact pastItsLine_dict (YF hcD (by rw[YA];omega))) ?_);exact Yn (h _ ⟨(hs2.2 _ (Yy03 I.ne)).trans I.obj,hn2,I.ne⟩ hs2)
theorem ZB9{R:Result->Shared->Prop}{vs:List Value}{kw:List (Str × Value)}(X:K.In s.heap)(hm:PySem.W.makesIn K C=true)
  (hi:PySem.W.findIn K (.ref C) "__init__"=some (some (.ref f))) (hf:PySem.W.typeIn K (.ref f)=some (.type "function"))
  (h:codeAny (model prog w) (A.under (.builtin "type.__call__" ⟨.ref C :: vs,kw⟩)) (.call (.ref f) ⟨.ref (s.heap.objs.size+1) :: vs,kw⟩) (PySem.W.InitBack (s.heap.objs.size+1) R)
   { s with heap:=(s.heap.push PySem.W.emptyDict).push (PySem.W.instObj C s.heap.objs.size) }) :
  codeAny (model prog w) A (.call (.ref C) ⟨vs,kw⟩) R s:=by obtain⟨hh,g,d,t,os⟩:=s;exact PySem.W.make_core (PySem.W.makes_of X hm) (PySem.W.looks_findIn X hi) (fun self=>PySem.W.bind_fn X self hf) (.inl rfl) h
end
def putF(f:Str)(v:V):List (Str × V)->List (Str × V)
 | []=>[(f,v)]
 | (g,x) :: r=>if g=f then (g,v) :: r else (g,x) :: putF f v r
theorem Za1(f g:Str)(v:V):∀ fs:List (Str × V),(putF f v fs).lookup g=if g=f then some v else fs.lookup g
 | []=>by
  show List.lookup g [(f,v)]=_;by_cases h:g=f
  ·have hb:(g == f)=true:=Yy16.mpr h;simp only [List.lookup,hb,if_pos h]
  ·have hb:(g == f)=false:=Y1g.mpr h;simp only [List.lookup,hb,if_neg h]
 | (k,x) :: r=>by
  have ih:=Za1 f g v r;rw[show putF f v ((k,x) :: r)=(if k=f then (k,v) :: r else (k,x) :: putF f v r) from rfl];by_cases hk:k=f
  ·rw[if_pos hk];by_cases h:g=k
   ·have hb:(g == k)=true:=Yy16.mpr h;simp only [List.lookup,hb,if_pos (h.trans hk)]
   ·have hb:(g == k)=false:=Y1g.mpr h;simp only [List.lookup,hb,if_neg (fun e:g=f=>h (e.trans hk.symm))]
  ·rw[if_neg hk];by_cases h:g=k
   ·have hb:(g == k)=true:=Yy16.mpr h;simp only [List.lookup,hb,if_neg (fun e:g=f=>hk (h.symm.trans e))]
   ·have hb:(g == k)=false:=Y1g.mpr h;simp only [List.lookup,hb];exact ih
theorem ZU2(f:Str)(v:V):∀ fs:List (Str × V),f∈(putF f v fs).map (·.1)/\∀ g,g∈fs.map (·.1)->g∈(putF f v fs).map (·.1)
 | []=>⟨by simp[putF],fun g h=>by simp at h⟩
 | (k,x) :: r=>by
  obtain⟨i1,i2⟩:=ZU2 f v r;rw[show putF f v ((k,x) :: r)=(if k=f then (k,v) :: r else (k,x) :: putF f v r) from rfl];by_cases hk:k=f
  ·rw[if_pos hk];subst hk;exact⟨by simp,fun g h=>by simpa using h⟩
  ·rw[if_neg hk];refine⟨?_,fun g h=>?_⟩
   ·rw[YI];exact Yg _ i1
   ·rw[YI]at h ⊢;rcases Yh.mp h with e | e
    ·exact Yh.mpr (.inl e)
    ·exact Yg _ (i2 g e)
theorem ZA2(f:Str)(v:V):∀ fs:List (Str × V),(putF f v fs).length<=fs.length+1
 | []=>by simp[putF]
 | (k,x) :: r=>by
  have ih:=ZA2 f v r;rw[show putF f v ((k,x) :: r)=(if k=f then (k,v) :: r else (k,x) :: putF f v r) from rfl];by_cases hk:k=f
  ·rw[if_pos hk,YA,YA];omega
  ·rw[if_neg hk,YA,YA];omega
theorem RelO.some_of{v:V}{o:Option Value}(r:RelO (some v) o):∃ u,o=some u/\RelV v u:=by
 cases o with
 | none=>exact(show False from r).elim
 | some u=>exact⟨u,rfl,r⟩
theorem ZI7{v:V}{u:Value}(r:RelV v u):PySem.W.handedIn u=true:=by
 cases v with
 | non=>cases (show u=Value.none from r);rfl
 | bl b=>cases (show u=Value.bool b from r);rfl
 | int i=>obtain⟨t,e⟩:=(show ∃ t,u=Value.int i t from r);cases e;rfl
 | str x=>obtain⟨t,e⟩:=(show ∃ t,u=Value.str x t from r);cases e;rfl
 | byt b=>obtain⟨t,e⟩:=(show ∃ t,u=Value.bytes b t from r);cases e;rfl
 | flt b=>obtain⟨t,e⟩:=(show ∃ t,u=Value.float b t from r);cases e;rfl
 | ref a=>cases (show u=Value.ref a from r);rfl
 | ty n=>cases (show u=Value.type n from r);rfl
section
variable{P:Program}{w:World}{H:Hp}{h:Heap}{a C dx:Addr}{fs:List (Str × V)}
theorem Zq8(hok:HOk P w H h)(e:H a=some (.ins C dx fs)):∃ mA,ObjM h a dx C mA/\(∀ f,RelO (fs.lookup f) (mA f))/\PySem.Within mA (fs.map (·.1))/\fs.length<=1000/\H dx=some (.own a):=by obtain⟨d,z,ne,ob,mA,n,r,q⟩:=(show ObjOk P w H h a (.ins C dx fs) from hok a _ e);exact⟨mA,⟨ob,n,ne⟩,r,q,z,d⟩
end
structure Cls (K:PySem.W.Frag) (C:Addr):Prop where
 pg:PySem.W.plainGet K C Str.empty=true
 hd:PySem.W.hasDictIn K C=true
 po:PySem.W.plainOver K C=true
 sa:PySem.W.findIn K (.ref C) "__setattr__"=some (some (.builtin "object.__setattr__"))
theorem Cls.get{K:PySem.W.Frag}{C:Addr}(c:Cls K C)(f:Str):PySem.W.plainGet K C f=true:=c.pg
def NoAttr(K:PySem.W.Frag)(C:Addr)(f:Str):Prop:=PySem.W.findIn K (.ref C) f=some none
theorem NoAttr.taker{K:PySem.W.Frag}{C:Addr}{f:Str}(n:NoAttr K C f):PySem.W.takerIn K C f=some none:=by unfold PySem.W.takerIn;rw[show PySem.W.findIn K (.ref C) f=some none from n];rfl
structure Con (K:PySem.W.Frag) (C:Addr) (f:Str) (v:V) (u:Value):Prop where
 at_:PySem.W.findIn K (.ref C) f=some (some u)
 rel:RelV v u
 get:PySem.W.specialIn K u "__get__"=some none
 cp:PySem.W.copiedNames.contains f=false
structure Meth (K:PySem.W.Frag) (C:Addr) (m:Str) (f:Addr):Prop where
 at_:PySem.W.findIn K (.ref C) m=some (some (.ref f))
 fn:PySem.W.isFn K (.ref f)=true
 kp:PySem.W.keepIn K (.ref f)=true
section
variable{X:Cx}{pins:List (Addr × Obj)}{σ:St}{H:Hp}{s:Shared}{a C dx:Addr}{fs:List (Str × V)}{f:Str}{v:V}{A:Around}{E:Value->Shared->Prop}
theorem ZA6{b:Bool}{Q:Value->Shared->Prop}(I:Inv X pins σ H s)(e:H a=some (.ins C dx fs))(c:Cls X.K C)(n:NoAttr X.K C f)(l:fs.lookup f=some v)
  (h:∀ u s',Inv X pins σ H s'->RelV v u->Q u s'):wpAny (model X.prog X.w) A (getAttr (.ref a) f b) Q E s:=by obtain⟨mA,O,r,_,_,_⟩:=Zq8 I.hok e;obtain⟨u,hu,ru⟩:=RelO.some_of (v:=v) (o:=mA f) (by rw[<- l];exact r f);exact ZK11 I.kIn O (c.get f) c.hd n hu (ZI7 ru) (h u _ (I.tok _) ru)
theorem ZK5{y:V}{u:Value}{Q:Unit->Shared->Prop}(I:Inv X pins σ H s)(e:H a=some (.ins C dx fs))(c:Cls X.K C)(n:NoAttr X.K C f)(hl:fs.length<1000)(ry:RelV y u)
  (h:∀ s',Inv X pins σ (upd H a (.ins C dx (putF f y fs))) s'->Q () s'):wpAny (model X.prog X.w) A (setAttr (.ref a) f u) Q E s:=by
 obtain⟨mA,O,r,wi,_,ho⟩:=Zq8 I.hok e;have hz:(fs.map (·.1)).length<=sizeLine:=by rw[Yb,Y0M];omega
 refine ZL10 I.kIn O c.sa c.po n.taker c.hd wi hz fun h' O' sb=>h _ ?_;have hd:∃ o,h'.get? dx=some o:=let ⟨o,_,_,e',_⟩:=O'.ns;⟨o,e'⟩
 refine I.write (x:=a) (e:=dx) (by rw[e];exact True.intro) (.inr ho) (fun b q hb z=>(sb.2 b hb).trans z) hd ?_;refine⟨by rw[Zc O.ne];exact ho,?_,O.ne,O'.obj,_,O'.ns,fun g=>?_,fun g hg=>?_⟩
 ·have:=ZA2 f y fs;omega
 ·show RelO ((putF f y fs).lookup g) (if g=f then some u else mA g);rw[Za1];by_cases q:g=f
  ·rw[if_pos q,if_pos q];exact ry
  ·rw[if_neg q,if_neg q];exact r g
 ·by_cases q:g=f
  ·rw[q];exact(ZU2 f y fs).1
  ·refine(ZU2 f y fs).2 g (wi g fun z=>hg ?_);show(if g=f then some u else mA g)=none
   rw[if_neg q];exact z
theorem Inv.made(I:Inv X pins σ H s):Inv X pins σ (upd (upd H s.heap.objs.size (.own (s.heap.objs.size+1))) (s.heap.objs.size+1) (.ins C s.heap.objs.size []))
  { s with heap:=(s.heap.push PySem.W.emptyDict).push (PySem.W.instObj C s.heap.objs.size) }:=by
 have e1:(s.heap.push PySem.W.emptyDict).get? s.heap.objs.size=some PySem.W.emptyDict:=Yo s.heap rfl;have e2:((s.heap.push PySem.W.emptyDict).push (PySem.W.instObj C s.heap.objs.size)).get? (s.heap.objs.size+1)=some (PySem.W.instObj C s.heap.objs.size):=by
  have:=Yo (s.heap.push PySem.W.emptyDict) (o:=PySem.W.instObj C s.heap.objs.size) rfl
  rwa [Y0Z]at this
 have e3:(s.heap.push PySem.W.emptyDict).Ns s.heap.objs.size (fun _=>none):=⟨PySem.W.emptyDict,#[],_,e1,rfl,(fun e he=>absurd he (by simp)),fun _=>rfl⟩;have I1:=I.laid (a:=s.heap.objs.size) (o:=.own (s.heap.objs.size+1)) (h':=s.heap.push PySem.W.emptyDict) (t':=s.toks) (fun b u q=>Yy5 _ q) (Yy7 _) ⟨_,e1⟩
 refine I1.laid (a:=s.heap.objs.size+1) (o:=.ins C s.heap.objs.size []) (t':=s.toks) (fun b u q=>Yy5 _ q) (Nat.le_of_eq (Y0Z _ _)) ?_;have ne:s.heap.objs.size≠s.heap.objs.size+1:=Yu (Y0s _)
 refine⟨by rw[Zc ne,Zz1],Yj _,ne,e2,fun _=>none,(Heap.Ns1.of_empty e3).at fun o q=>Yy5 _ q,fun _=>True.intro,fun y hy=>absurd rfl hy⟩
theorem Zc12{prog:Program}{w:World}{env:Env}{e:Expr}{f:Str}{pos:Pos}{s:Shared}{Q:Value->Shared->Prop}(hb:attributeBase e f env (eval e env)=eval e env)
  (h:wpAny (model prog w) A (eval e env) (fun o s₁=>wpAny (model prog w) A (getAttr o f true) Q E s₁) E s):wpAny (model prog w) A (eval (.Attribute e f pos) env) Q E s :=
 Attribute_any_ h (by rw[arm_eval_Attribute,hb])
end
def tFld(K:PySem.W.Frag)(ta:TE)(f:Str):TE:=fun σ H Q=>ta σ H fun x H1=>∃ a C dx fs v,x=.ref a/\H1 a=some (.ins C dx fs)/\Cls K C/\NoAttr K C f/\fs.lookup f=some v/\Q v H1
def sFld(K:PySem.W.Frag)(ta tv:TE)(f:Str):TS:=fun D σ H=>tv σ H fun y H1=>ta σ H1 fun x H2=>∃ a C dx fs,x=.ref a/\H2 a=some (.ins C dx fs)/\Cls K C/\NoAttr K C f/\fs.length<1000 /\
 D.nx σ (upd H2 a (.ins C dx (putF f y fs)))
section
variable{X:Cx}{o e value:Expr}{f:Str}{pos pos':Pos}{ta tv:TE}
theorem ZQ12(he:PE X e ta)(hb:attributeBase e f X.env (eval e X.env)=eval e X.env):PE X (.Attribute e f pos) (tFld X.K ta f):=by intro pins s σ H Q I h;refine Zc12 hb (thn (he pins s σ H _ I h) fun u s1 hz0=>?_);obtain⟨x,H1,I1,rx,a,C,dx,fs,v,ex,ea,c,n,l,q⟩:=hz0;subst ex;obtain rfl:u=Value.ref a:=rx;exact ZA6 I1 ea c n l fun u' s2 I2 ru=>⟨v,H1,I2,ru,q⟩
theorem Zz111(ha:PE X o ta)(hv:PE X value tv)(hs:swapsWith value (some (.Attribute o f pos')) pos.line X.env=pure false):PS X (.Assign [.Attribute o f pos'] value pos) (sFld X.K ta tv f):=by intro pins s σ H D I h;refine plainObj_wpAny_Assign_Attribute (thn (hv pins s σ H _ I h) fun u s1 ⟨y,H1,I1,ry,q⟩=>thn (ha pins s1 σ H1 _ I1 q) fun ov s2 hz0=>?_) hs;obtain⟨x,H2,I2,rx,a,C,dx,fs,ex,ea,c,n,l,q2⟩:=hz0;subst ex;obtain rfl:ov=Value.ref a:=rx;exact ZK5 I2 ea c n l ry fun s3 I3=>⟨σ,_,I3,q2⟩
end
section
variable{H:Hp}
inductive TyOf (K:PySem.W.Frag) (H:Hp):V->Value->Prop where
 | non:TyOf K H .non (.type "NoneType")
 | bl (x:Bool):TyOf K H (.bl x) (.type "bool")
 | int (i:Int):TyOf K H (.int i) (.type "int")
 | str (x:Str):TyOf K H (.str x) (.type "str")
 | flt (x:UInt64):TyOf K H (.flt x) (.type "float")
 | lst {a:Addr} {xs:List V} (e:H a=some (.lst xs)):TyOf K H (.ref a) (.type "list")
 | frz {a:Addr} {o:Obj} {xs:List V} (e:H a=some (.frz o (.lst xs))):TyOf K H (.ref a) (.type "list")
 | tup {a:Addr} {xs:List V} (e:H a=some (.tup xs)):TyOf K H (.ref a) (.type "tuple")
 | dK {a:Addr} {kvs:List (Key × V)} (e:H a=some (.dK kvs)):TyOf K H (.ref a) (.type "dict")
 | dT {a:Addr} {kvs:List (List Key × V)} (e:H a=some (.dT kvs)):TyOf K H (.ref a) (.type "dict")
 | ins {a C dx:Addr} {fs:List (Str × V)} (e:H a=some (.ins C dx fs)) (cl:Cls K C) (ha:PySem.W.findIn K (.ref C) "__class__"=some (some (.builtin "object.__class__")))
   (hn:PySem.W.specialIn K (.builtin "object.__class__") "__get__"=some (some (.builtin "getset_descriptor.__get__"))) (htk:PySem.W.takesIn K (.builtin "object.__class__")=some true)
   (hm:PySem.W.mroIn K C (.type "object")=some true):TyOf K H (.ref a) (.ref C)
end
structure Room (k:Nat) (A:Around):Prop where
 hd:A.handled=none
 dp:A.depth+3 * k+5<recursionLimit
 un:A.units+16 * k+200<cLine
theorem Room.mono{j k:Nat}{A:Around}(r:Room k A)(h:j<=k):Room j A:=⟨r.hd,by have:=r.dp;omega,by have:=r.un;omega⟩
theorem Room.deeper{k:Nat}{A:Around}(r:Room (k+1) A)(env:Env):Room k (A.deeper env) :=
 ⟨r.hd,by have:=r.dp;show A.depth+1+3 * k+5<_;omega,by have:=r.un;show A.units+3+16 * k+200<_;omega⟩
theorem Room.in1{k:Nat}{A:Around}(r:Room (k+1) A):Room k A.in1 :=
 ⟨r.hd,by have:=r.dp;show A.depth+3 * k+5<_;omega,by have:=r.un;show A.units+1+16 * k+200<_;omega⟩
theorem Zd6 {A:Around} {C:Addr} {us:List Value} {kw:List (Str × Value)}:(A.under (.builtin "type.__call__" ⟨.ref C :: us,kw⟩)).depth=A.depth+1:=by
 first | rfl | simp[Around.under,Code.weight,Code.isCreation,Code.isGuard,Code.isCaller,Code.frames,Code.isFrame,guardIds]
theorem Zc6 {A:Around} {C:Addr} {us:List Value} {kw:List (Str × Value)}:(A.under (.builtin "type.__call__" ⟨.ref C :: us,kw⟩)).units=A.units+1:=by
 first | rfl | simp[Around.under,Code.cUnits,Code.frames,Code.isFrame]
theorem Room.make {k:Nat} {A:Around} (r:Room (k+1) A) (C:Addr) (us:List Value) (kw:List (Str × Value)):Room k (A.under (.builtin "type.__call__" ⟨.ref C :: us,kw⟩)) :=
 ⟨r.hd,by have:=r.dp;rw[Zd6];omega,by have:=r.un;rw[Zc6];omega⟩
theorem Room.depth{k:Nat}{A:Around}(r:Room k A):A.depth<recursionLimit:=by have:=r.dp;omega
theorem Room.units{k:Nat}{A:Around}(r:Room k A):A.units+64<cLine:=by have:=r.un;omega
def tNil:TA:=fun _ H Q=>Q [] H
def Zr10(ta:TE)(tr:TA):TA:=fun σ H Q=>ta σ H fun x H1=>tr σ H1 fun xs H2=>Q (x :: xs) H2
section
variable{X:Cx}{e:Expr}{es:List Expr}{te:TE}{t:TA}{pos:Pos}
theorem Zz3:PA X [] tNil:=fun _ _ _ _ H Q I h=>Calls.spliced_nil ⟨[],H,I,.nil,h⟩
theorem Zz0(ha:PE X e te)(hr:PA X es t)(hs:starEach (e :: es) X.env=(false,eval e X.env) :: starEach es X.env:=by rfl):PA X (e :: es) (Zr10 te t):=by
 intro pos pins s σ H Q I h;rw[hs];show wpAny _ _ (spliced ((false,eval e X.env) :: backTo pos (starEach es X.env))) _ _ s
 refine Calls.spliced_cons (thn (ha pins s σ H _ I h) fun u s1 hz0=>?_);obtain⟨x,H1,I1,r1,q1⟩:=hz0;exact thn (hr pos pins s1 σ H1 _ I1 q1) fun us s2 ⟨xs,H2,I2,r2,q2⟩=>⟨x :: xs,H2,I2,.cons r1 r2,q2⟩
def tTup(t:TA):TE:=fun σ H Q=>t σ H fun xs H1=>xs.length<=sizeLine/\∀ p,H1 p=none->Q (.ref p) (upd H1 p (.tup xs))
def tLst(t:TA):TE:=fun σ H Q=>t σ H fun xs H1=>xs.length<=sizeLine/\∀ p,H1 p=none->Q (.ref p) (upd H1 p (.lst xs))
theorem ZN{x1}(h:PA X es t):PE X (.Tuple es x1 pos) (tTup t):=by
 intro pins s σ H Q I hq;refine wpAny_Tuple_spliced (thn (h pos pins s σ H _ I hq) fun us s1 ⟨xs,H1,I1,r,z,q⟩=>⟨by rw[<- r.length];exact z,?_⟩);have hf:H1 s1.heap.objs.size=none:=I1.hok.fresh (Yy7 _)
 refine⟨.ref s1.heap.objs.size,upd H1 s1.heap.objs.size (.tup xs),I1.laid (t':=s1.toks) (fun b u e=>Yy5 _ e) (Yy7 _) ?_,rfl,q _ hf⟩;exact⟨z,us,r,⟨_,Yo _ rfl,rfl,_,rfl⟩⟩
theorem Zz81(h:PA X es t):PE X (.List es pos) (tLst t):=by
 intro pins s σ H Q I hq;refine wpAny_List_spliced (thn (h pos pins s σ H _ I hq) fun us s1 ⟨xs,H1,I1,r,z,q⟩=>⟨by rw[<- r.length];exact z,?_⟩);have hf:H1 s1.heap.objs.size=none:=I1.hok.fresh (Yy7 _)
 refine⟨.ref s1.heap.objs.size,upd H1 s1.heap.objs.size (.lst xs),I1.laid (t':=s1.toks) (fun b u e=>Yy5 _ e) (Yy7 _) ?_,rfl,q _ hf⟩;exact⟨z,us,0,r,Yo _ rfl⟩
end
abbrev Sp:=List V->Hp->VK->XK->Prop
abbrev CXT:=List Env->Hp->Shared->XK->Value->Shared->Prop
structure Env0 (P:Program) (w:World) (K:PySem.W.Frag) (mg:Str->Option Value) (base:Heap) (A:Around) (outer:List Env) (s:Shared) (H:Hp):Prop where
 frames:A.frames=some outer
 mod:Mod K mg base
 bs:∀ b o,base.get? b=some o->s.heap.get? b=some o/\H b=none
 bsz:base.objs.size<=s.heap.objs.size
 funs:s.heap.FunFrames base outer
 frf:∀ b∈frs outer,H b=none
 hok:HOk P w H s.heap
 bare:AllBare s.gens
def CE(outer:List Env)(P:Program)(w:World)(H:Hp)(s:Shared)(Q:VK)(u:Value)(s':Shared):Prop :=
 ∃ v H',s'.os=s.os/\AllBare s'.gens/\Un (frs outer) [] H H' s.heap s'.heap/\HOk P w H' s'.heap/\RelV v u/\Q v H'
def CR(CX:CXT)(outer:List Env)(P:Program)(w:World)(H:Hp)(s:Shared)(Q:VK)(E:XK)(r:Result)(s':Shared):Prop :=
 match r with
 | .ok (.ret u)=>CE outer P w H s Q u s'
 | .ok _=>False
 | .error e=>CX outer H s E e s'
structure FnOk (P:Program) (w:World) (K:PySem.W.Frag) (mg:Str->Option Value) (base:Heap) (CX:CXT) (k:Nat) (f:Addr) (fd:FuncData) (ps:List Str) (sp:Sp):Prop where
 len:∀ vs H Q E,sp vs H Q E->vs.length=ps.length
 run:∀(A:Around) (outer:List Env) (s:Shared) (H:Hp) (args:Args) (us:List Value) (vs:List V) (Q:VK) (E:XK),Room k A->Env0 P w K mg base A outer s H->BindsTo s fd args (ps.zip us)->Vals vs us->sp vs H Q E ->
  codeAny (model P w) A (.call (.ref f) args) (CR CX outer P w H s Q E) s
theorem Env0.make{P:Program}{w:World}{K:PySem.W.Frag}{mg:Str->Option Value}{base:Heap}{A:Around}{outer:List Env}{s:Shared}{H:Hp}(e:Env0 P w K mg base A outer s H)(C:Addr)(us:List Value)(kw:List (Str × Value)) :
  Env0 P w K mg base (A.under (.builtin "type.__call__" ⟨.ref C :: us,kw⟩)) outer s H:=⟨by first | exact e.frames | (simpa [Around.under,Code.envs,Code.isFrame,pushEnvs] using e.frames),e.mod,e.bs,e.bsz,e.funs,e.frf,e.hok,e.bare⟩
theorem Env0.in1{P:Program}{w:World}{K:PySem.W.Frag}{mg:Str->Option Value}{base:Heap}{A:Around}{outer:List Env}{s:Shared}{H:Hp}(e:Env0 P w K mg base A outer s H) :
  Env0 P w K mg base A.in1 outer s H:=⟨e.frames,e.mod,e.bs,e.bsz,e.funs,e.frf,e.hok,e.bare⟩
section
variable{X:Cx}{pins:List (Addr × Obj)}{σ:St}{H:Hp}{s s':Shared}
theorem Inv.env0(I:Inv X pins σ H s):Env0 X.prog X.w X.K X.mg X.base X.A X.stack s H :=
 ⟨I.ok.frames,I.ok.mod,I.bs,YF I.ok.bsz I.sz,I.stack,I.stkFree,I.hok,I.bare⟩
theorem Inv.after{Q:VK}{u:Value}(I:Inv X pins σ H s)(h:CE X.stack X.prog X.w H s Q u s'):EP X pins σ Q u s':=by obtain⟨v,H',os,bare,un,hok,r,q⟩:=h;obtain⟨hh,g,d,t,os'⟩:=s';obtain rfl:os'=s.os:=os;exact⟨v,H',I.call (h':=hh) (g':=g) (d':=d) (t':=t) (ch:=[]) un hok bare (fun b z=>absurd z (by simp)),r,q⟩
end
def ZB13(sp:Sp)(dvs:List V)(E:XK)(t:TA):TE:=fun σ H Q=>t σ H fun vs H1=>sp (vs++dvs) H1 Q E
def Yz13(C:Addr)(sp:Sp)(dvs:List V)(E:XK)(t:TA):TE:=fun σ H Q=>t σ H fun vs H1=>∀ x dx,H1 x=none->H1 dx=none->dx≠x ->
 sp (.ref x :: (vs++dvs)) (upd (upd H1 dx (.own x)) x (.ins C dx [])) (fun v H2=>v=.non/\Q (.ref x) H2) E
def Binds(K:PySem.W.Frag)(fd:FuncData)(ps:List Str)(ds:List Value):Prop :=
 ∀(s:Shared) (us:List Value),K.In s.heap->(us++ds).length=ps.length->BindsTo s fd ⟨us,[]⟩ (ps.zip (us++ds))
theorem Binds.all{K:PySem.W.Frag}{fd:FuncData}{ps:List Str}(h:∀ us:List Value,us.length=ps.length->bindArgs fd ⟨us,[]⟩=pure (ps.zip us)):Binds K fd ps []:=fun s us _ hl=>by rw[YS]at hl ⊢;exact .of_eq (h us hl)
def Zz77(CX:CXT)(X:Cx)(E:XK):Prop:=∀(pins:List (Addr × Obj)) (σ:St) (H:Hp) (s:Shared) (e:Value) (s':Shared),Inv X pins σ H s->CX X.stack H s E e s'->X.xe e s'
section
variable{X:Cx}{CX:CXT}{k:Nat}{f C:Addr}{fd:FuncData}{ps:List Str}{sp:Sp}{dvs:List V}{ds:List Value}{E:XK}{x:Str}{p pos:Pos}{e:Expr}{es:List Expr}{t:TA}
theorem ZC12{pins:List (Addr × Obj)}{σ:St}{H:Hp}{s:Shared}{Q:VK}{us:List Value}{vs:List V}(F:FnOk X.prog X.w X.K X.mg X.base CX k f fd ps sp)(hr:Room k X.A)(hb:Binds X.K fd ps ds)(hd:Vals dvs ds)(hx:Zz77 CX X E)
  (I:Inv X pins σ H s) (r:Vals vs us) (h:sp (vs++dvs) H Q E):wpAny (model X.prog X.w) X.A (call (.ref f) us) (EP X pins σ Q) X.xe s:=by
 have r2:Vals (vs++dvs) (us++ds):=r.append hd;have hl:(us++ds).length=ps.length:=by rw[<- r2.length];exact F.len _ _ _ _ h
 refine wpAny_call (Y1x (F.run X.A X.stack s H ⟨us,[]⟩ (us++ds) (vs++dvs) Q E hr I.env0 (hb s us I.kIn hl) r2 h) fun r s' hq=>?_);cases r with
 | error e=>exact hx pins σ H s e s' I hq
 | ok fl =>
  cases fl with
  | ret u=>exact I.after hq
  | next=>exact False.elim hq
  | brk=>exact False.elim hq
  | cont=>exact False.elim hq
theorem Za(F:FnOk X.prog X.w X.K X.mg X.base CX k f fd ps sp)(hr:Room k X.A)(hg:Gl X x)(hm:X.mg x=some (.ref f))(hk:PySem.W.keepIn X.K (.ref f)=true)(hb:Binds X.K fd ps ds)(hd:Vals dvs ds)(hx:Zz77 CX X E)
  (ha:PA X (e :: es) t) (hdb:(x == ("__debug__":Str))=false:=by decide) (he:starEach (e :: es) X.env=(false,eval e X.env) :: starEach es X.env:=by rfl) (hpl:(backTo pos (starEach es X.env)).any (·.1)=false:=by rfl) :
  PE X (.Call (.Name x p) (e :: es) [] pos) (ZB13 sp dvs E t):=by intro pins s σ H Q I h;refine Y0U (Zk6 I hg hm ?_ hdb);refine PySem.W.callWith_K (h₀:=X.base) I.ok.mod.kin hk (thn (ha pos pins s σ H _ I h) fun us s1 ⟨vs,H1,I1,r,q⟩=>⟨I1.kIn,?_⟩) he hpl;exact ZC12 F hr hb hd hx I1 r q
structure Mk (K:PySem.W.Frag) (C f:Addr):Prop where
 makes:PySem.W.makesIn K C=true
 init:PySem.W.findIn K (.ref C) "__init__"=some (some (.ref f))
 fn:PySem.W.isFn K (.ref f)=true
 kp:PySem.W.keepIn K (.ref C)=true
theorem Zz79{pins:List (Addr × Obj)}{σ:St}{H:Hp}{s:Shared}{Q:VK}{us:List Value}{vs:List V}(M:Mk X.K C f)(F:FnOk X.prog X.w X.K X.mg X.base CX k f fd ps sp)(hr:Room (k+1) X.A)(hb:Binds X.K fd ps ds)(hd:Vals dvs ds)
  (hx:Zz77 CX X E) (I:Inv X pins σ H s) (r:Vals vs us)
  (h:∀ x dx,H x=none->H dx=none->dx≠x->sp (.ref x :: (vs++dvs)) (upd (upd H dx (.own x)) x (.ins C dx [])) (fun v H2=>v=.non/\Q (.ref x) H2) E) :
  wpAny (model X.prog X.w) X.A (call (.ref C) us) (EP X pins σ Q) X.xe s:=by
 have hq:=h (s.heap.objs.size+1) s.heap.objs.size (I.hok.fresh (Y0P _)) (I.hok.fresh (Yy7 _)) (Yu (Y0s _));have I2:=Inv.made (C:=C) I
 have r2:Vals (V.ref (s.heap.objs.size+1) :: (vs++dvs)) (Value.ref (s.heap.objs.size+1) :: (us++ds)):=.cons rfl (r.append hd);have hl:(Value.ref (s.heap.objs.size+1) :: us++ds).length=ps.length:=by have e:=r2.length;rw[F.len _ _ _ _ hq]at e;exact e.symm
 refine wpAny_call (ZB9 (f:=f) I.kIn M.makes M.init (Yy16.mp M.fn) (Y1x (F.run _ X.stack _ _ ⟨Value.ref (s.heap.objs.size+1) :: us,[]⟩ (Value.ref (s.heap.objs.size+1) :: (us++ds)) _ _ E (hr.make C us [])
  (I2.env0.make C us []) (hb _ (Value.ref (s.heap.objs.size+1) :: us) I2.kIn hl) r2 hq) fun r s' hq'=>?_))
 cases r with
 | error e=>exact hx pins σ _ _ e s' I2 hq'
 | ok fl =>
  cases fl with
  | ret u =>
   obtain⟨v,H',I3,rv,ev,q3⟩:=I2.after hq';subst ev;exact⟨rv,⟨V.ref (s.heap.objs.size+1),H',I3,rfl,q3⟩⟩
  | next=>exact False.elim hq'
  | brk=>exact False.elim hq'
  | cont=>exact False.elim hq'
theorem ZX5(M:Mk X.K C f)(F:FnOk X.prog X.w X.K X.mg X.base CX k f fd ps sp)(hr:Room (k+1) X.A)(hg:Gl X x)(hm:X.mg x=some (.ref C))(hb:Binds X.K fd ps ds)(hd:Vals dvs ds)(hx:Zz77 CX X E)
  (ha:PA X (e :: es) t) (hdb:(x == ("__debug__":Str))=false:=by decide) (he:starEach (e :: es) X.env=(false,eval e X.env) :: starEach es X.env:=by rfl) (hpl:(backTo pos (starEach es X.env)).any (·.1)=false:=by rfl) :
  PE X (.Call (.Name x p) (e :: es) [] pos) (Yz13 C sp dvs E t):=by intro pins s σ H Q I h;refine Y0U (Zk6 I hg hm ?_ hdb);refine PySem.W.callWith_K (h₀:=X.base) I.ok.mod.kin M.kp (thn (ha pos pins s σ H _ I h) fun us s1 ⟨vs,H1,I1,r,q⟩=>⟨I1.kIn,?_⟩) he hpl;exact Zz79 M F hr hb hd hx I1 r q
end
section
variable{fd:FuncData}{ps ks:List Str}
structure KBinds (K:PySem.W.Frag) (fd:FuncData) (ps ks:List Str) (g:List Value->List Value->List Value) (gV:List V->List V->List V):Prop where
 to:∀(s:Shared) (us ws:List Value),K.In s.heap->(g us ws).length=ps.length->BindsTo s fd ⟨us,ks.zip ws⟩ (ps.zip (g us ws))
 rel:∀ {vs:List V} {us:List Value} {zs:List V} {ws:List Value},Vals vs us->Vals zs ws->Vals (gV vs zs) (g us ws)
end
structure FnScope (N P:List Str) (sc:Scope):Prop where
 kind:sc.kind=.function
 co:sc.isCoroutine=false
 gen:sc.isGenerator=false
 nd:N.Nodup
 pre:N.take P.length=P
 par:∀ x∈P,sc.names.lookup x=some .local\/sc.names.lookup x=some .cell
 nofree:∀ y∈sc.names,y.2≠.free
theorem ZZ4{kindOf:Str->Option NameKind}{x:Str}:∀ {binds:List (Str × Value)} {m:Str->Option Value},(∀ v,(x,v)∉binds)->bindL kindOf binds m x=m x
 | [],_,_=>rfl
 | (n,v) :: r,m,h=>by
  unfold bindL;rw[ZZ4 fun w hw=>h w (Yg _ hw)];split
  ·have:x≠n:=by rintro rfl;exact h v Ye
   simp[this]
  ·rfl
theorem Zz15{kindOf:Str->Option NameKind}{x:Str}:∀ {binds:List (Str × Value)} {m:Str->Option Value},(∀ v,(x,v)∉binds)->bindC kindOf binds m x=m x
 | [],_,_=>rfl
 | (n,v) :: r,m,h=>by
  unfold bindC;rw[Zz15 fun w hw=>h w (Yg _ hw)];split
  ·rfl
  ·have:x≠n:=by rintro rfl;exact h v Ye
   simp[this]
theorem Zz05{kindOf:Str->Option NameKind}{x:Str}{v:Value}:∀ {P:List Str} {vs:List Value} {i:Nat} {m:Str->Option Value},P.Nodup->P[i]?=some x->vs[i]?=some v->kindOf x=some .local ->
  bindL kindOf (P.zip vs) m x=some v
 | [],_,_,_,_,h,_,_=>by simp at h
 | _ :: _,[],_,_,_,_,h,_=>by simp at h
 | p :: P,w :: vs,0,m,nd,h1,h2,hk=>by
  simp at h1 h2;subst h1;subst h2;show bindL kindOf ((p,w) :: P.zip vs) m p=_
  unfold bindL;rw[ZZ4 fun v hv=>(Yy09.mp nd).1 (Y2Q hv).1,if_pos hk];simp
 | p :: P,w :: vs,i+1,m,nd,h1,h2,hk=>by show bindL kindOf ((p,w) :: P.zip vs) m x=_;unfold bindL;exact Zz05 (i:=i) (Yy09.mp nd).2 (by simpa using h1) (by simpa using h2) hk
theorem Zz25{kindOf:Str->Option NameKind}{x:Str}{v:Value}:∀ {P:List Str} {vs:List Value} {i:Nat} {m:Str->Option Value},P.Nodup->P[i]?=some x->vs[i]?=some v->kindOf x≠some .local ->
  bindC kindOf (P.zip vs) m x=some v
 | [],_,_,_,_,h,_,_=>by simp at h
 | _ :: _,[],_,_,_,_,h,_=>by simp at h
 | p :: P,w :: vs,0,m,nd,h1,h2,hk=>by
  simp at h1 h2;subst h1;subst h2;show bindC kindOf ((p,w) :: P.zip vs) m p=_
  unfold bindC;rw[Zz15 fun v hv=>(Yy09.mp nd).1 (Y2Q hv).1,if_neg hk];simp
 | p :: P,w :: vs,i+1,m,nd,h1,h2,hk=>by show bindC kindOf ((p,w) :: P.zip vs) m x=_;unfold bindC;exact Zz25 (i:=i) (Yy09.mp nd).2 (by simpa using h1) (by simpa using h2) hk
def start(N:List Str)(vs:List V):St:=vs.map some++List.replicate (N.length - vs.length) none
def cxOf(CX:CXT)(P:Program)(w:World)(K:PySem.W.Frag)(mg:Str->Option Value)(base:Heap)(N:List Str)(qual:Str)(scope:Scope)(f:Addr)(cd:Value)(A:Around)(outer:List Env)(s:Shared)(H:Hp)(E:XK):Cx where
 prog:=P
 w:=w
 K:=K
 mg:=mg
 base:=base
 A:=A.deeper (envOfC qual scope s.heap.objs.size f cd)
 N:=N
 s₀:=s
 H₀:=H
 env:=envOfC qual scope s.heap.objs.size f cd
 outer:=outer
 stack:=envOfC qual scope s.heap.objs.size f cd :: outer
 ex:=[]
 calm:=true
 fn:=fun _=>true
 pn:=[]
 xe:=fun e s'=>wpAny (model P w) (A.deeper (envOfC qual scope s.heap.objs.size f cd)) (leaving (envOfC qual scope s.heap.objs.size f cd) e) (fun _ s''=>CX outer H s E e s'') (fun e' s''=>CX outer H s E e' s'') s'
theorem Zz17{sc:Scope}{n:Nat}{x:Str}(h:sc.names.lookup x=some .cell):∃ c,(cellsFrom n sc.names []).lookup x=some c:=by have q:=Y3a sc.names n [] (.inl h);exact Y1P.mp q
theorem ZF7{CX:CXT}{P:Program}{w:World}{K:PySem.W.Frag}{mg:Str->Option Value}{base:Heap}{N ps:List Str}{qual:Str}{scope:Scope}{f:Addr}{cd:Value}{A:Around}{outer:List Env}{s s1:Shared}{H:Hp}{E:XK}{us:List Value}{vs:List V}
  (S:FnScope N ps scope) (hd:A.handled=none) (e0:Env0 P w K mg base A outer s H) (hl:vs.length=ps.length) (r:Vals vs us)
  (x:InCallC s s.heap.objs.size (bindL (envOfC qual scope s.heap.objs.size f cd).kindOf (ps.zip us) fun _=>none) (cellsFrom (s.heap.objs.size+1) scope.names []) (bindC (envOfC qual scope s.heap.objs.size f cd).kindOf (ps.zip us) fun _=>none) s1) :
  Inv (cxOf CX P w K mg base N qual scope f cd A outer s H E) [] (start N vs) H s1:=by
 have hpl:ps.length<=N.length:=by have:=Yy04 List.length S.pre;rw[Yz]at this;omega
 obtain⟨h1,tk,rfl,hk⟩:=x.done;have noA:∀ b:Addr,b∉(cxOf CX P w K mg base N qual scope f cd A outer s H E).ex:=fun b z=>absurd (show b∈([]:List Addr) from z) (by simp)
 refine⟨⟨e0.mod,S.kind,rfl,rfl,Yy7 _,fun y z c h1 h2=>?_,fun y hy=>?_,fun y c _ h=>?_,fun _=>hd,Around.frames_deeper e0.frames,.inr ⟨rfl,rfl⟩,fun b z=>absurd z (noA b),e0.bs,e0.bsz,fun b _ _=>noA b,fun b z=>absurd z (noA b),e0.funs,e0.frf⟩,
  rfl,e0.bare,Un.kept hk,⟨_,x.toInCall.ns,fun i y v h1 h2 h3=>?_⟩,fun y c h=>⟨_,x.cell y c h⟩,e0.hok.fresh (Yy7 _),fun y c h=>?_,fun p hp=>absurd (show p∈([]:List (Addr × Obj)) from hp) (by simp),e0.hok.kept hk,?_⟩
 ·exact name_of_addr x.apart (Y0I h1) (Y0I h2)
 ·have hy:scope.names.lookup y=some .cell\/scope.names.lookup y=some .free:=hy;rcases hy with hy | hy
  ·exact Zz17 hy
  ·exact absurd rfl (S.nofree _ (Y0I hy))
 ·exact Y1A (x.above y c (Y0I h))
 ·have hi:i<vs.length:=by
   unfold start at h2;by_cases hi:i<vs.length
   ·exact hi
   ·rw[Yy (by simpa using hi)]at h2;rw[Y0X]at h2;split at h2 <;> cases h2
  have ha:vs[i]?=some v:=by
   unfold start at h2;rw[Yx (by simpa using hi),Ym]at h2;cases e:vs[i]? with
   | none=>rw[e]at h2;cases h2
   | some a=>rw[e]at h2;cases h2;rfl
  obtain⟨u,hu,rv⟩:=r.get ha;have hp:ps[i]?=some y:=by rw[<- S.pre,List.getElem?_take_of_lt (by omega)];exact h1
  have ndP:ps.Nodup:=by rw[<- S.pre];exact S.nd.sublist (Y1r _ _)
  refine⟨u,rv,?_⟩;rcases S.par y (Yy6 hp) with k | k
  ·exact .inl ⟨k,Zz05 ndP hp hu k⟩
  ·obtain⟨c,e⟩:=Zz17 (n:=s.heap.objs.size+1) k;refine .inr ⟨.inl k,c,e,?_⟩;have q:=x.cell y c e
   rw[Zz25 ndP hp hu (by show scope.names.lookup y≠_;rw[k];decide)]at q;exact q
 ·exact e0.hok.fresh (Y1A (x.above y c (Y0I h)))
 ·unfold start;show _=N.length
  rw[Yy8,Yb,YC];omega
theorem Zu13{CX:CXT}{P:Program}{w:World}{K:PySem.W.Frag}{mg:Str->Option Value}{base:Heap}{k:Nat}{f:Addr}{name qual:Str}{params:Arguments}{body:List Stmt}{scope:Scope}{dV kV doc pm cdv ct oc:Value}{an od:Option Addr}
  {osl:Array (Option Value)} {N ps:List Str} {sp:Sp} (lk:K.lookup f=some ⟨oc,od,.func (PySem.W.fnOf name qual params body scope dV kV doc pm an cdv ct),osl⟩) (hcd:PySem.W.codeIn K cdv qual=true) (S:FnScope N ps scope)
  (len:∀ vs H Q E,sp vs H Q E->vs.length=ps.length)
  (hbody:∀(A:Around) (outer:List Env) (s:Shared) (H:Hp) (vs:List V) (Q:VK) (E:XK),Room k (A.deeper (envOfC qual scope s.heap.objs.size f cdv))->sp vs H Q E ->
   ∃ t,PSs (cxOf CX P w K mg base N qual scope f cdv A outer s H E) body t/\t { nx:=fun _ H'=>Q .non H',rt:=Q } (start N vs) H) :
  FnOk P w K mg base CX (k+1) f (PySem.W.fnOf name qual params body scope dV kV doc pm an cdv ct) ps sp:=by
 refine⟨len,fun A outer s H args us vs Q E hr e0 hb r hsp=>?_⟩;have hl:=len _ _ _ _ hsp
 have KX:K.In s.heap:=e0.mod.kin.keeps fun b o e=>(e0.bs b o e).1;have lim:s.heap.NoLimit:=e0.mod.nolimit.keeps fun b o e=>(e0.bs b o e).1
 have hkind:∀ y∈ps.zip us,scope.names.lookup y.1=some .local\/(scope.names.lookup y.1=some .cell/\((cellsFrom (s.heap.objs.size+1) scope.names []).lookup y.1).isSome=true):=fun⟨n,v⟩ hy=>by
  rcases S.par n (Y2Q hy).1 with q | q
  ·exact .inl q
  ·exact .inr ⟨q,Y3a _ _ _ (.inl q)⟩
 refine codeAny_call_function hr.depth (KX _ _ lk) rfl S.co S.gen rfl (PySem.W.codeRec_of KX hcd) (hb _ _ _ _ ?_);refine wpAny_newFunctionEnv_cells S.kind hkind fun env he s1 x=>?_;subst he;refine⟨lim.keeps x.toInCall.keep,codeAny_func ?_⟩;obtain⟨t,ht,hq⟩:=hbody A outer s H vs Q E (hr.deeper _) hsp;have I:Inv (cxOf CX P w K mg base N qual scope f cdv A outer s H E) [] (start N vs) H s1:=ZF7 S hr.hd e0 hl r x
 refine Y0O (ht [] s1 (start N vs) H _ I hq) (fun fl s' hs=>?_) fun e s' hs=>hs;have fin:∀ {σ':St} {H':Hp} {v:V} {u:Value},Inv (cxOf CX P w K mg base N qual scope f cdv A outer s H E) [] σ' H' s'->RelV v u->Q v H'->CE outer P w H s Q u s' :=
  fun {σ' H' v u} J rv q=>⟨v,H',J.os,J.bare,J.base,J.hok,rv,q⟩
 cases fl with
 | ret u =>
  obtain⟨v,σ',H',J,rv,q⟩:=hs;exact fin J rv q
 | next =>
  obtain⟨σ',H',J,q⟩:=hs;exact fin (v:=V.non) (u:=Value.none) J rfl q
 | brk =>
  obtain⟨_,_,_,q⟩:=hs;exact False.elim q
 | cont =>
  obtain⟨_,_,_,q⟩:=hs;exact False.elim q
section
variable{X:Cx}{x:Str}{p pos:Pos}{e:Expr}{es:List Expr}{t:TA}{id T:String}{r:List V->Hp->VK->Prop}
def tCB(r:List V->Hp->VK->Prop)(t:TA):TE:=fun σ H Q=>t σ H fun vs H1=>r vs H1 Q
theorem Zl (hc:Zb3 X (.builtin id) r) (hg:Gl X x) (hm:X.mg x=none) (hv:bootBuiltins x=some (.builtin id)) (ha:PA X (e :: es) t) (hn:x≠"__name__":=by decide) (hdb:(x == ("__debug__":Str))=false:=by decide)
  (he:starEach (e :: es) X.env=(false,eval e X.env) :: starEach es X.env:=by rfl) (hpl:(backTo pos (starEach es X.env)).any (·.1)=false:=by rfl):PE X (.Call (.Name x p) (e :: es) [] pos) (tCB r t):=by intro pins s σ H Q I h;refine Y0U (ZR2 I hg hm hv ?_ hn hdb);exact Y2u (thn (ha pos pins s σ H _ I h) fun us s1 ⟨vs,H1,I1,r1,q1⟩=>hc pins s1 σ H1 vs us Q I1 r1 q1) he hpl
theorem Zt (hc:Zb3 X (.type T) r) (hg:Gl X x) (hm:X.mg x=none) (hv:bootBuiltins x=some (.type T)) (ha:PA X (e :: es) t) (hn:x≠"__name__":=by decide) (hdb:(x == ("__debug__":Str))=false:=by decide)
  (he:starEach (e :: es) X.env=(false,eval e X.env) :: starEach es X.env:=by rfl) (hpl:(backTo pos (starEach es X.env)).any (·.1)=false:=by rfl):PE X (.Call (.Name x p) (e :: es) [] pos) (tCB r t):=by intro pins s σ H Q I h;refine Y0U (ZR2 I hg hm hv ?_ hn hdb);exact Y0n (thn (ha pos pins s σ H _ I h) fun us s1 ⟨vs,H1,I1,r1,q1⟩=>hc pins s1 σ H1 vs us Q I1 r1 q1) he hpl
end
end L2
namespace HT
open PySem PyProof.Rows
def lexLt:List Int->List Int->Bool
 | [],[]=>false
 | [],_ :: _=>true
 | _ :: _,[]=>false
 | x :: xs,y :: ys=>if x=y then lexLt xs ys else decide (x<y)
theorem lexLt_cons(x y:Int)(xs ys:List Int):lexLt (x :: xs) (y :: ys)=if x=y then lexLt xs ys else decide (x<y):=rfl
theorem Zt3:lexLt [] []=false:=rfl
theorem ZP2(y:Int)(ys:List Int):lexLt [] (y :: ys)=true:=rfl
theorem ZQ2(x:Int)(xs:List Int):lexLt (x :: xs) []=false:=rfl
theorem Zz210(A:Around)(s:Shared)(a:Int)(t:Tok)(c:Int)(u:Tok):∃ e,SeqAt.EqAt A s (.int a t) (.int c u) e/\(e=true↔a=c) :=
 ⟨(a == c),Y1c a t c u,by simp⟩
theorem ZO5(A:Around)(s:Shared)(a:Int)(t:Tok)(c:Int)(u:Tok)(prog:Program)(w:World)(E:Value->Shared->Prop)(Q:Value->Shared->Prop)(h:Q (.bool (decide (a<c))) s) :
  wpAny (model prog w) A (richCompare .Lt (.int a t) (.int c u)) Q E s :=
 (PyProof.Rows.lt_int h:wpAny (model prog w) A (compareOp .Lt (.int a t) (.int c u)) Q E s)
section
open PySem.SeqAt
open PySem.AutoSeq1 (wpAny_loadPart')
open PySem.MeetsSeq PySem.MeetsSeq2 PySem.MeetsSeq3
theorem Ze3(l b:Addr)(items items2:Array Value)(n n2:Nat)(dd dd2:Option Addr)(sl sl2:Array (Option Value))(ns ms:List Int)(hi:IntsAre items.toList ns)(hj:IntsAre items2.toList ms) :
  Meets (Builtin.«tuple.__lt__» ⟨[.ref l,.ref b],[]⟩)
   (fun _ R s=>s.heap.get? l=some { cls:=.type "tuple",dict:=dd,data:=.seq items n,slots:=sl }/\s.heap.get? b=some { cls:=.type "tuple",dict:=dd2,data:=.seq items2 n2,slots:=sl2 } /\
    R (.ok (.ret (.bool (lexLt ns ms)))) s) :=
 .of_wp fun prog w A R s h=>by
  obtain⟨hp,g,d,tk,os⟩:=s;obtain⟨hl,hb,h⟩:=h;have f2:=AutoSeq1.sub_tuple_tuple
  have z1:items.size=ns.length:=by rw[<- hi.length];simp
  have z2:items2.size=ms.length:=by rw[<- hj.length];simp
  wp_walk using Yy13 hl,Yy13 hb,wpAny_forIn_list _ (fun rest b s'=>b.1=none/\s'=⟨hp,g,d,tk,os⟩/\∃(vs ws:List Value) (ns' ms':List Int),rest=vs.zip ws /\
   IntsAre vs ns'/\IntsAre ws ms'/\ns'.length+items2.size=ms'.length+items.size/\R (.ok (.ret (.bool (lexLt ns' ms')))) ⟨hp,g,d,tk,os⟩) _
  case turn =>
   rintro⟨y,x⟩ rest b s' ⟨hb',rfl,vs,ws,ns',ms',hz,hvi,hwi,hlen,hR⟩;cases hvi with
   | nil=>rw[List.zip_nil_left]at hz;cases hz
   | cons a t hvi' =>
    cases hwi with
    | nil=>rw[List.zip_nil_right]at hz;cases hz
    | cons c u hwi' =>
     rw[List.zip_cons_cons]at hz;injection hz with hyx hrest
     injection hyx with hy hx;subst hy hx;rw[lexLt_cons]at hR;simp only [YA]at hlen;obtain⟨e,he,hiff⟩:=Zz210 A.in1 ⟨hp,g,d,tk,os⟩ a t c u;refine Yy4 (he prog w _ _ ?_);cases e with
     | true =>
      rw[if_pos (hiff.mp rfl)]at hR
      wp_walk
      exact⟨rfl,rfl,_,_,_,_,hrest,hvi',hwi',by omega,hR⟩
     | false =>
      rw[if_neg (fun q=>absurd (hiff.mpr q) Ys)]at hR;have hri:=ZO5 A.in1 ⟨hp,g,d,tk,os⟩ a t c u prog w
      wp_walk using hri
      exact⟨_,rfl,by simpa using hR⟩
  case fin =>
   rintro⟨b1,b2⟩ s' ⟨hb',rfl,vs,ws,ns',ms',hz,hvi,hwi,hlen,hR⟩;simp only at hb';subst hb';have hv:lexLt ns' ms'=decide (items.size<items2.size):=by
    cases hvi with
    | nil =>
     cases hwi with
     | nil =>
      simp only [Yy17]at hlen;rw[Zt3];exact(YW (by omega)).symm
     | cons c u hw =>
      simp only [Yy17,YA]at hlen;rw[ZP2];exact(Yl (by omega)).symm
    | cons a t hv =>
     cases hwi with
     | nil =>
      simp only [Yy17,YA]at hlen;rw[ZQ2];exact(YW (by omega)).symm
     | cons c u hw =>
      rw[List.zip_cons_cons]at hz;cases hz
   rw[hv]at hR
   wp_walk
   exact⟨_,rfl,by simpa [Builtin.Tuple.tupleCompareSizes] using hR⟩
  case h =>
   exact⟨rfl,rfl,items.toList,items2.toList,ns,ms,rfl,hi,hj,by omega,h⟩
end
section
variable{prog:Program}{w:World}{A:Around}{E:Value->Shared->Prop}{s:Shared}
theorem Zf6{l b:Addr}{items items2:Array Value}{ns ms:List Int}{Q:Value->Shared->Prop}(hl:IsTup s.heap l items)(hb:IsTup s.heap b items2)(hi:IntsAre items.toList ns)(hj:IntsAre items2.toList ms)
  (hu:A.units<cLine) (h:Q (.bool (lexLt ns ms)) s):wpAny (model prog w) A (compareOp .Lt (.ref l) (.ref b)) Q E s:=by
 obtain⟨⟨cls,dd,data,sl⟩,ho,hc,n,hd⟩:=id hl;obtain⟨⟨cls2,dd2,data2,sl2⟩,ho2,hc2,n2,hd2⟩:=id hb;simp only at hc hd hc2 hd2;subst hc hd hc2 hd2;exact richCompare_meets_room (op:=.Lt) ⟨_,ho,rfl⟩ ⟨_,ho2,rfl⟩ Y3e Y3b (Yy35 _ _) (Ze3 l b items items2 n n2 dd dd2 sl sl2 ns ms hi hj)
  ⟨ho,ho2,show Value.bool (lexLt ns ms)≠Value.notImplemented/\Q (.bool (lexLt ns ms)) s from⟨(fun x=>nomatch x),h⟩⟩ hu
theorem cat_tup{t b:Addr}{vs ws:List Value}{Q:Value->Shared->Prop}(ht:IsTup s.heap t vs.toArray)(hb:IsTup s.heap b ws.toArray)(hv:vs≠[])
  (h1:ws=[]->Q (.ref t) s) (h2:ws≠[]->Q (.ref s.heap.objs.size) { s with heap:=s.heap.push { cls:=.type "tuple",data:=.seq (vs++ws).toArray } })
  (hsz:vs.length+ws.length<=sizeLine):wpAny (model prog w) A (binaryOp .Add (.ref t) (.ref b)) Q E s:=by
 obtain⟨⟨cls,dd,data,sl⟩,ho,hc,n,hd⟩:=id ht;obtain⟨⟨cls2,dd2,data2,sl2⟩,ho2,hc2,n2,hd2⟩:=id hb;simp only at hc hd hc2 hd2;subst hc hd hc2 hd2;have e:vs.toArray++ws.toArray=(vs++ws).toArray:=by simp
 by_cases hw:ws=[]
 ·exact concat_meets ⟨_,ho,rfl⟩ ⟨_,ho2,rfl⟩ Yy39 seq_tuple_add Y1Z Y1W (Y1O _ _)
   (tuple_addW1 t b vs.toArray ws.toArray n n2 dd dd2 sl sl2 (by simpa using hv) (by simp[hw])) ⟨ho,ho2,h1 hw⟩
 ·refine concat_meets ⟨_,ho,rfl⟩ ⟨_,ho2,rfl⟩ Yy39 seq_tuple_add Y1Z Y1W (Y1O _ _)
   (tuple_addW2 t b vs.toArray ws.toArray n n2 dd dd2 sl sl2 (by simpa using hv) (by simpa using hw) (by rw[Ya,Ya];exact hsz)) ⟨ho,ho2,?_⟩
  rw[e];exact h2 hw
def sIx(n d:Nat):Option Int->Nat
 | none=>d
 | some v=>if v<0 then (v+(n:Int)).toNat else min v.toNat n
theorem sIx_none(n d:Nat):sIx n d none=d:=rfl
end
end HT
namespace L2
open PySem PySem.Spec PyProof.Rows
abbrev TO:=St->Hp->(Option Int->Hp->Prop)->Prop
def PO(X:Cx)(e:Option Expr)(t:TO):Prop :=
 ∀(pins:List (Addr × Obj)) (s:Shared) (σ:St) (H:Hp) (Q:Option Int->Hp->Prop),Inv X pins σ H s->t σ H Q ->
  wpAny (model X.prog X.w) X.A (evalPart e X.env) (fun u s'=>∃ o H',Inv X pins σ H' s'/\IsPart u o/\Q o H') X.xe s
def ZD10:TO:=fun _ H Q=>Q none H
def Zx13(t:TE):TO:=fun σ H Q=>t σ H fun x H1=>∃ i,x=.int i/\Q (some i) H1
section
variable{X:Cx}{e:Expr}{te:TE}{lo hi:Option Expr}{tl th:TO}{pos p2:Pos}
theorem Zm3:PO X none ZD10:=by intro pins s σ H Q I h;rw[evalPart_none];exact Yn ⟨none,H,I,.none,h⟩
theorem Zl3(h:PE X e te):PO X (some e) (Zx13 te):=by intro pins s σ H Q I hw;rw[evalPart_some];refine thn (h pins s σ H _ I hw) fun u s1 hz0=>?_;obtain⟨x,H1,I1,r1,q1⟩:=hz0;obtain⟨i,rfl,q⟩:=q1;obtain⟨t,rfl⟩:=r1;exact⟨some i,H1,I1,.int i t,q⟩
def SlR(X:Cx)(r:V->Option Int->Option Int->Hp->VK->Prop):Prop :=
 ∀(pins:List (Addr × Obj)) (s:Shared) (σ:St) (H:Hp) (x:V) (v vl vu:Value) (lo hi:Option Int) (sl:Addr) (Q:VK),Inv X pins σ H s->RelV x v->s.heap.IsSliceOf sl vl vu .none->IsPart vl lo->IsPart vu hi->r x lo hi H Q ->
  ∃ T id,typeLookup (.type T) "__getitem__"=pure (some (.builtin id))/\s.TypeIs v T/\wpAny (model X.prog X.w) X.A (getItem v (.ref sl)) (EP X pins σ Q) X.xe s
def tSl(r:V->Option Int->Option Int->Hp->VK->Prop)(te:TE)(tl th:TO):TE:=fun σ H Q=>te σ H fun x H1=>tl σ H1 fun l H2=>th σ H2 fun u H3=>r x l u H3 Q
theorem Zb2{r:V->Option Int->Option Int->Hp->VK->Prop}(hr:SlR X r)(he:PE X e te)(hl:PO X lo tl)(hu:PO X hi th):PE X (.Subscript e (.Slice lo hi none p2) pos) (tSl r te tl th):=by
 intro pins s σ H Q I h;refine Subscript_ (thn (he pins s σ H _ I h) fun v s1 hz0=>?_);obtain⟨x,H1,I1,r1,q1⟩:=hz0;refine wpAny_Slice (thn (hl pins s1 σ H1 _ I1 q1) fun vl s2 ⟨l,H2,I2,pl,q2⟩=>thn (hu pins s2 σ H2 _ I2 q2) fun vu s3 hz0=>?_);obtain⟨u,H3,I3,pu,q3⟩:=hz0;rw[evalPart_none];refine Yn ?_;have I4:Inv X pins σ H3 { s3 with heap:=s3.heap.push { cls:=.type "slice",data:=.fields #[vl,vu,.none] } }:=I3.kept (t':=s3.toks) fun b ob q=>Yy5 _ q
 obtain⟨T,id,hT,ht,hg⟩:=hr pins { s3 with heap:=s3.heap.push { cls:=.type "slice",data:=.fields #[vl,vu,.none] } } σ H3 x v vl vu l u s3.heap.objs.size Q I4 r1 (Heap.IsSliceOf.new ..) pl pu q3;show wpAny (model X.prog X.w) X.A (subscriptTail e (.Slice lo hi none p2) v (.ref s3.heap.objs.size)) (EP X pins σ Q) X.xe { s3 with heap:=s3.heap.push { cls:=.type "slice",data:=.fields #[vl,vu,.none] } }
 exact tail_any (ops:=[.ref s3.heap.objs.size,v]) ht hT hg (by with_unfolding_all rfl)
def cutV(xs:List V)(lo hi:Option Int):List V:=(xs.drop (HT.sIx xs.length 0 lo)).take (HT.sIx xs.length xs.length hi - HT.sIx xs.length 0 lo)
theorem ZL1(xs:List V)(lo hi:Option Int):(cutV xs lo hi).length<=xs.length:=by unfold cutV;rw[Yz,Y2H];omega
def Zp13(K:PySem.W.Frag):R2:=fun x y H Q=>∃ a b xs ys,x=.ref a/\y=.ref b/\SqT K H a xs/\SqT K H b ys/\xs≠[]/\xs.length+ys.length<=sizeLine /\
 (ys=[]->Q (.ref a) H)/\(ys≠[]->∀ p,H p=none->Q (.ref p) (upd H p (.tup (xs++ys))))
theorem Vals.nil_iff{xs:List V}{us:List Value}(r:Vals xs us):us=[]↔xs=[]:=by
 cases r with
 | nil=>simp
 | cons _ _=>simp
theorem Zf11:OpR X (binaryOp .Add) (Zp13 X.K):=by intro pins s σ H x y v u Q I rx ry h;obtain⟨a,b,xs,ys,rfl,rfl,ha,hb,hx,hz,q1,q2⟩:=h;cases rx;cases ry;obtain⟨its,r1,p1,_⟩:=I.tuple ha;obtain⟨its2,r2,p2,_⟩:=I.tuple hb;refine HT.cat_tup p1 p2 (fun z=>hx (r1.nil_iff.mp z)) (fun z=>⟨.ref a,H,I,rfl,q1 (r2.nil_iff.mp z)⟩) (fun z=>?_) (by rw[<- r1.length,<- r2.length];exact hz);refine⟨.ref s.heap.objs.size,_,I.laid (t':=s.toks) (o:=.tup (xs++ys)) (fun b ob q=>Yy5 _ q) (Yy7 _) ?_,rfl,q2 (fun w=>z (r2.nil_iff.mpr w)) _ (I.hok.fresh (Yy7 _))⟩;exact⟨by rw[Yy8];exact hz,_,r1.append r2,IsTup.new _ _⟩
end
def ixN(n:Nat)(i:Int):Option Nat:=if 0<=i then (if i<n then some i.toNat else none) else if -(n:Int)<=i then some (i+n).toNat else none
def atI{α:Type}(xs:List α)(i:Int):Option α:=(ixN xs.length i).bind fun j=>xs[j]?
theorem Zo8{n:Nat}{i:Int}{j:Nat}(h:ixN n i=some j):seqIndex? i n=some j/\j<n/\-(n:Int)<=i/\i<n:=by
 unfold ixN at h;by_cases h0:0<=i
 ·rw[if_pos h0]at h;by_cases h1:i<n
  ·rw[if_pos h1]at h;have e:i.toNat=j:=Yc h
   exact⟨by rw[seqIndex_of h0 h1,e],by omega,by omega,h1⟩
  ·rw[if_neg h1]at h;cases h
 ·rw[if_neg h0]at h;by_cases h1:-(n:Int)<=i
  ·rw[if_pos h1]at h;have e:(i+n).toNat=j:=Yc h
   exact⟨by rw[seqIndex_neg (by omega) h1,e],by omega,h1,by omega⟩
  ·rw[if_neg h1]at h;cases h
theorem ZL8{α:Type}{xs:List α}{i:Int}{v:α}(h:atI xs i=some v):∃ j,seqIndex? i xs.length=some j/\xs[j]?=some v/\j<xs.length/\-(xs.length:Int)<=i/\i<xs.length:=by
 unfold atI at h;cases e:ixN xs.length i with
 | none=>rw[e]at h;cases h
 | some j =>
  rw[e]at h;obtain⟨h1,h2,h3,h4⟩:=Zo8 e;exact⟨j,h1,h,h2,h3,h4⟩
def Zf12(b:Expr):Prop:=∀ o i,subscripted b false o i=operate [o,i] (getItem o i)
def IxR(X:Cx)(r:R2):Prop :=
 ∀(value slice:Expr) (pins:List (Addr × Obj)) (s:Shared) (σ:St) (H:Hp) (x y:V) (v u:Value) (Q:VK),Inv X pins σ H s->RelV x v->RelV y u->r x y H Q ->
  subscripted slice false v u=operate [v,u] (getItem v u)->wpAny (model X.prog X.w) X.A (subscriptTail value slice v u) (EP X pins σ Q) X.xe s
def MtR(X:Cx)(id:String)(r:V->List V->Hp->VK->Prop):Prop :=
 ∀(pins:List (Addr × Obj)) (s:Shared) (σ:St) (H:Hp) (x:V) (xs:List V) (v:Value) (us:List Value) (Q:VK),Inv X pins σ H s->RelV x v->Vals xs us->r x xs H Q ->
  wpAny (model X.prog X.w) X.A (call (.builtin id) (v :: us)) (EP X pins σ Q) X.xe s
section
variable{X:Cx}{a b:Expr}{ta tb:TE}{pos:Pos}
theorem ZP{r:R2}(hr:IxR X r)(ha:PE X a ta)(hb:PE X b tb)(hs:Zf12 b):PE X (.Subscript a b pos) (tOp r ta tb):=by intro pins s σ H Q I h;exact Subscript_ (binT ha hb I h fun v u s2 x y H2 I2 rx ry q=>hr a b pins s2 σ H2 x y v u Q I2 rx ry q (hs _ _))
def rIxL(K:PySem.W.Frag):R2:=fun x y H Q=>∃ p xs i v,x=.ref p/\y=.int i/\SqL K H p xs/\atI xs i=some v/\Q v H
def rIxT(K:PySem.W.Frag):R2:=fun x y H Q=>∃ p xs i v,x=.ref p/\y=.int i/\SqT K H p xs/\atI xs i=some v/\Q v H
theorem ZB11:IxR X (rIxL X.K):=by
 intro value slice pins s σ H x y v u Q I rx ry h hs;obtain⟨p,xs,i,z,rfl,rfl,hq,he,q⟩:=h;cases rx;obtain⟨t,rfl⟩:=ry;obtain⟨its,r,pl,hz⟩:=I.list hq;obtain⟨j,h1,h2,h3,h4,h5⟩:=ZL8 he;obtain⟨w,ew,rw'⟩:=r.get h2;have hl:=r.length
 have hn:=Zi6;have fin:EP X pins σ Q w s:=⟨z,H,I,rw',q⟩
 by_cases h0:0<=i
 ·have hj:i.toNat=j:=by rw[seqIndex_of h0 h5]at h1;exact Yc h1
  exact item_listR pl.isList h0 (by omega) (by rw[hj];simpa using ew) fin hs
 ·have hj:(i+(its.toArray.size:Int)).toNat=j:=by rw[seqIndex_neg (by omega) h4]at h1;rw[Ya,<- hl];exact Yc h1
  exact subscriptTail_builtinR (x:=w) pl.isList.typeIs slot_list_getitem.lookup
   (wpAny_getItem_list_neg (Q:=fun r s'=>r=w/\EP X pins σ Q r s') pl.isList (by omega) (by rw[Ya] <;> omega) (by omega) (by rw[hj];simpa using ew) ⟨rfl,fin⟩) hs
theorem Zz213:IxR X (rIxT X.K):=by
 intro value slice pins s σ H x y v u Q I rx ry h hs;obtain⟨p,xs,i,z,rfl,rfl,hq,he,q⟩:=h;cases rx;obtain⟨t,rfl⟩:=ry;obtain⟨its,r,pl,hz⟩:=I.tuple hq;obtain⟨j,h1,h2,h3,h4,h5⟩:=ZL8 he;obtain⟨w,ew,rw'⟩:=r.get h2;have hl:=r.length
 have hn:=Zi6;have fin:EP X pins σ Q w s:=⟨z,H,I,rw',q⟩
 exact subscriptTail_builtinR (x:=w) pl.typeIs slot_tuple_getitem.lookup
  (getItem_tuple (j:=j) (Q:=fun r s'=>r=w/\EP X pins σ Q r s') pl (by omega) (by omega) (by rw[Ya,<- hl];exact h1) (by simpa using ew) ⟨rfl,fin⟩) hs
theorem Zb6 (its:List Value) (n j:Nat) (u:Value):Obj.mapSeq (·.setIfInBounds j u) { cls:=.type "list",data:=.seq its.toArray n }={ cls:=.type "list",data:=.seq (its.set j u).toArray n }:=by simp[Obj.mapSeq]
theorem Inv.lst{pins:List (Addr × Obj)}{σ:St}{H:Hp}{s:Shared}{p:Addr}{xs:List V}(I:Inv X pins σ H s)(h:H p=some (.lst xs)) :
  ∃(its:List Value) (n:Nat),Vals xs its/\s.heap.get? p=some { cls:=.type "list",data:=.seq its.toArray n }/\xs.length<=sizeLine:=by obtain⟨z,its,n,r,e⟩:=I.hok p _ h;exact⟨its,n,r,e,z⟩
theorem Inv.lstUpd{pins:List (Addr × Obj)}{σ:St}{H:Hp}{s:Shared}{p:Addr}{xs ys:List V}{its its':List Value}{n n':Nat}{f:Obj->Obj}(I:Inv X pins σ H s)(h:H p=some (.lst xs))
  (ho:s.heap.get? p=some { cls:=.type "list",data:=.seq its.toArray n }) (hf:f { cls:=.type "list",data:=.seq its.toArray n }={ cls:=.type "list",data:=.seq its'.toArray n' }) (r:Vals ys its') (hz:ys.length<=sizeLine) (t:Nat) :
  Inv X pins σ (upd H p (.lst ys)) { s with heap:=s.heap.update p f,toks:=t }:=by
 have e:(s.heap.update p f).get? p=some { cls:=.type "list",data:=.seq its'.toArray n' }:=by rw[Y0d f ho (by rw[hf] <;> rfl),hf]
 refine I.write (x:=p) (e:=p) (by rw[h];trivial) (.inl rfl) (fun b u hb q=>(YU _ _ (Yy03 hb)).trans q) ⟨_,e⟩ ?_;exact⟨hz,its',n',r,e⟩
def ZG13:V->V->V->Hp->(Hp->Prop)->Prop:=fun o i v H Q=>∃ p xs k j,o=.ref p/\i=.int k/\H p=some (.lst xs)/\ixN xs.length k=some j/\Q (upd H p (.lst (xs.set j v)))
theorem ZG1:PSet X ZG13:=by
 intro pins s σ H o i v ov iv u Q I ro ri rv h;obtain⟨p,xs,k,j,rfl,rfl,hp,hj,q⟩:=h;cases ro;obtain⟨t,rfl⟩:=ri;obtain⟨its,n,r,ho,hz⟩:=I.lst hp;obtain⟨h1,h2,h3,h4⟩:=Zo8 hj;have hl:=r.length
 have hn:=Zi6;have I':Inv X pins σ (upd H p (.lst (xs.set j v))) { s with heap:=s.heap.update p (Obj.mapSeq (·.setIfInBounds j u)) } :=
  I.lstUpd hp ho (Zb6 its n j u) (r.set rv j) (by rw[Y0A];exact hz) s.toks
 by_cases h0:0<=k
 ·have hk:k.toNat=j:=by rw[seqIndex_of h0 h4]at h1;exact Yc h1
  exact PySem.W.ki_setAt ho h0 (by omega) (by rw[Ya,<- hl];exact h4) (by rw[hk];exact⟨_,I',q⟩)
 ·have hk:(k+(its.toArray.size:Int)).toNat=j:=by rw[seqIndex_neg (by omega) h3]at h1;rw[Ya,<- hl];exact Yc h1
  exact PySem.W.ki_setBack ho (by omega) (by rw[Ya,<- hl];exact h3) (by omega) (by rw[hk];exact⟨_,I',q⟩)
theorem ZM3(lo hi:Option Int)(n:Nat):(sliceBounds lo hi none n).1=((HT.sIx n 0 lo:Nat):Int)/\(sliceBounds lo hi none n).2.1=((HT.sIx n n hi:Nat):Int)/\(sliceBounds lo hi none n).2.2=1:=by
 refine⟨?_,?_,rfl⟩
 ·cases lo with
  | none=>simp[sliceBounds,HT.sIx]
  | some i =>
   simp only [sliceBounds,HT.sIx,Option.getD_none,show(1:Int) > 0 by decide,if_true];by_cases h:i<0
   ·simp only [h,if_true] <;> omega
   ·simp only [h,if_false] <;> omega
 ·cases hi with
  | none=>simp[sliceBounds,HT.sIx]
  | some i =>
   simp only [sliceBounds,HT.sIx,Option.getD_none,show(1:Int) > 0 by decide,if_true];by_cases h:i<0
   ·simp only [h,if_true] <;> omega
   ·simp only [h,if_false] <;> omega
theorem Zi3(its:List Value)(lo hi:Option Int):slicePick its.toArray lo hi none=((its.drop (HT.sIx its.length 0 lo)).take (HT.sIx its.length its.length hi - HT.sIx its.length 0 lo)).toArray:=by obtain⟨h1,h2,h3⟩:=ZM3 lo hi its.toArray.size;unfold slicePick;rw[h1,h2,h3];simp only [sliceRange_one,pick_run,Ya] <;> rfl
def rSlL(K:PySem.W.Frag):V->Option Int->Option Int->Hp->VK->Prop:=fun x lo hi H Q=>∃ a xs,x=.ref a/\SqL K H a xs/\∀ p,H p=none->Q (.ref p) (upd H p (.lst (cutV xs lo hi)))
theorem ZI10:SlR X (rSlL X.K):=by
 intro pins s σ H x v vl vu lo hi sl Q I rx hs pl pu h;obtain⟨a,xs,rfl,hx,q⟩:=h;cases rx;obtain⟨its,r,ht,hz⟩:=I.list hx;have hlen:=r.length
 refine⟨"list",_,slot_list_getitem.lookup,ht.isList.typeIs,?_⟩;refine wpAny_getItem_list_slice ht.isList hs pl pu .none (by simp) ?_ (by rw[Ya] <;> omega)
 rw[Zi3,<- hlen];refine⟨.ref s.heap.objs.size,_,I.laid (t':=s.toks) (o:=.lst (cutV xs lo hi)) (fun b ob q=>Yy5 _ q) (Yy7 _) ?_,rfl,q _ (I.hok.fresh (Yy7 _))⟩;exact⟨YF (ZL1 xs lo hi) hz,_,0,(r.drop (HT.sIx xs.length 0 lo)).take (HT.sIx xs.length xs.length hi - HT.sIx xs.length 0 lo),Yo _ rfl⟩
def ZG3:V->Bool
 | .non=>true
 | .bl _=>true
 | .int _=>true
 | .str _=>true
 | _=>false
def eqV:V->V->Bool
 | .non,.non=>true
 | .bl a,.bl b=>a == b
 | .bl a,.int b=>(if a then 1 else 0) == b
 | .int a,.bl b=>a == (if b then 1 else 0)
 | .int a,.int b=>a == b
 | .str a,.str b=>a == b
 | _,_=>false
theorem ZT11{A:Around}{s:Shared}{y x:V}{u v:Value}(ry:RelV y u)(rx:RelV x v)(fy:ZG3 y=true)(fx:ZG3 x=true):SeqAt.EqAt A s u v (eqV y x):=by
 cases y with
 | non =>
  cases ry;cases x with
  | non=>cases rx;exact Y2r _
  | bl b=>cases rx;exact SeqAt.EqAt.none_bool b
  | int b=>obtain⟨t,rfl⟩:=rx;exact SeqAt.EqAt.none_int b t
  | str b=>obtain⟨t,rfl⟩:=rx;exact SeqAt.EqAt.none_str b t
  | _=>exact absurd (show false=true from fx) Ys
 | bl a =>
  cases ry;cases x with
  | non=>cases rx;exact SeqAt.EqAt.bool_none a
  | bl b=>cases rx;exact SeqAt.EqAt.bool_bool a b
  | int b=>obtain⟨t,rfl⟩:=rx;exact SeqAt.EqAt.bool_int a b t
  | str b=>obtain⟨t,rfl⟩:=rx;exact SeqAt.EqAt.bool_str a b t
  | _=>exact absurd (show false=true from fx) Ys
 | int a =>
  obtain⟨t',rfl⟩:=ry;cases x with
  | non=>cases rx;exact SeqAt.EqAt.int_none a t'
  | bl b=>cases rx;exact SeqAt.EqAt.int_bool a t' b
  | int b=>obtain⟨t,rfl⟩:=rx;exact Y1c a t' b t
  | str b=>obtain⟨t,rfl⟩:=rx;exact SeqAt.EqAt.int_str a t' b t
  | _=>exact absurd (show false=true from fx) Ys
 | str a =>
  obtain⟨t',rfl⟩:=ry;cases x with
  | non=>cases rx;exact SeqAt.EqAt.str_none a t'
  | bl b=>cases rx;exact SeqAt.EqAt.str_bool a t' b
  | int b=>obtain⟨t,rfl⟩:=rx;exact SeqAt.EqAt.str_int a t' b t
  | str b=>obtain⟨t,rfl⟩:=rx;exact SeqAt.EqAt.str_str a t' b t
  | _=>exact absurd (show false=true from fx) Ys
 | _=>exact absurd (show false=true from fy) Ys
def eqU(x:V)(u:Value):Bool:=match u with
 | .none=>eqV .non x
 | .bool b=>eqV (.bl b) x
 | .int i _=>eqV (.int i) x
 | .str z _=>eqV (.str z) x
 | _=>false
theorem ZS11{x y:V}{u:Value}(r:RelV y u)(f:ZG3 y=true):eqU x u=eqV y x:=by
 cases y with
 | non=>cases r;rfl
 | bl b=>cases r;rfl
 | int i=>obtain⟨t,rfl⟩:=r;rfl
 | str z=>obtain⟨t,rfl⟩:=r;rfl
 | _=>exact absurd (show false=true from f) Ys
theorem ZF3{x:V}:∀ {xs:List V} {us:List Value},Vals xs us->xs.all ZG3=true->us.any (eqU x)=xs.any fun y=>eqV y x
 | _,_,.nil,_=>rfl
 | y :: xs,u :: us,.cons r t,f=>by rw[List.all_cons,Y0t]at f;rw[Yy25,Yy25,ZS11 r f.1,ZF3 t f.2]
theorem ZI1{A:Around}{s:Shared}{x:V}{v:Value}(rx:RelV x v)(fx:ZG3 x=true):∀ {xs:List V} {us:List Value},Vals xs us->xs.all ZG3=true->∀ u∈us,SeqAt.EqAt A s u v (eqU x u)
 | _,_,.nil,_=>fun u hu=>by cases hu
 | y :: xs,u :: us,.cons r t,f=>fun u' hu=>by
  rw[List.all_cons,Y0t]at f;rcases Yh.mp hu with rfl | hu
  ·rw[ZS11 r f.1];exact ZT11 r rx f.1 fx
  ·exact ZI1 rx fx t f.2 u' hu
def inV(x:V)(xs:List V):Bool:=xs.any fun y=>eqV y x
def rIn(K:PySem.W.Frag)(neg:Bool):R2:=fun x y H Q=>∃ p xs,y=.ref p/\(SqL K H p xs\/SqT K H p xs)/\ZG3 x=true/\xs.all ZG3=true/\Q (.bl (if neg then !inV x xs else inV x xs)) H
theorem Zt7:OpR X (compareOp .In) (rIn X.K false):=by
 intro pins s σ H x y v u Q I rx ry h;obtain⟨p,xs,rfl,hq,fx,fs,q⟩:=h;cases ry;rcases hq with hq | hq
 ·obtain⟨its,r,pl,hz⟩:=I.list hq;refine SeqAt.in_listAt (eqU x) pl.isList (fun w hw=>ZI1 rx fx r fs w (by simpa using hw)) ⟨.bl _,H,I,rfl,?_⟩;rw[show its.toArray.any (eqU x)=its.any (eqU x) by simp,ZF3 r fs];exact q
 ·obtain⟨its,r,pl,hz⟩:=I.tuple hq;refine SeqAt.in_tupleAt (eqU x) pl (fun w hw=>ZI1 rx fx r fs w (by simpa using hw)) ⟨.bl _,H,I,rfl,?_⟩;rw[show its.toArray.any (eqU x)=its.any (eqU x) by simp,ZF3 r fs];exact q
theorem ZR3:OpR X (compareOp .NotIn) (rIn X.K true):=by
 intro pins s σ H x y v u Q I rx ry h;obtain⟨p,xs,rfl,hq,fx,fs,q⟩:=h;cases ry;rcases hq with hq | hq
 ·obtain⟨its,r,pl,hz⟩:=I.list hq;refine SeqAt.notIn_listAt (eqU x) pl.isList (fun w hw=>ZI1 rx fx r fs w (by simpa using hw)) ⟨.bl _,H,I,rfl,?_⟩;rw[show its.toArray.any (eqU x)=its.any (eqU x) by simp,ZF3 r fs];exact q
 ·obtain⟨its,r,pl,hz⟩:=I.tuple hq;refine SeqAt.notIn_tupleAt (eqU x) pl (fun w hw=>ZI1 rx fx r fs w (by simpa using hw)) ⟨.bl _,H,I,rfl,?_⟩;rw[show its.toArray.any (eqU x)=its.any (eqU x) by simp,ZF3 r fs];exact q
theorem Zz84:Zb3 X (.builtin "len") (fun xs H Q=>∃ p ys,xs=[.ref p]/\(SqL X.K H p ys\/SqT X.K H p ys)/\Q (.int ys.length) H):=by
 intro pins s σ H xs us Q I r h;obtain⟨p,ys,rfl,hq,q⟩:=h;obtain⟨u,rfl,rx⟩:=Zz75 r;cases rx;have hn:=Zi6
 rcases hq with hq | hq
 ·obtain⟨its,r',pl,hz⟩:=I.list hq;have hlen:=r'.length
  exact Calls.call_len_list pl.isList (by simp only [Ya] <;> omega) ⟨.int ys.length,H,I.tok _,⟨s.toks+1,by rw[Ya,hlen]⟩,q⟩
 ·obtain⟨its,r',pl,hz⟩:=I.tuple hq;have hlen:=r'.length
  exact len_tuple pl (by simp only [Ya] <;> omega) ⟨.int ys.length,H,I.tok _,⟨s.toks+1,by rw[Ya,hlen]⟩,q⟩
theorem Zz74:Zb3 X (.type "list") (fun xs H Q=>∃ p ys,xs=[.ref p]/\(SqL X.K H p ys\/SqT X.K H p ys)/\∀ l,H l=none->Q (.ref l) (upd H l (.lst ys))):=by
 intro pins s σ H xs us Q I r h;obtain⟨p,ys,rfl,hq,q⟩:=h;obtain⟨u,rfl,rx⟩:=Zz75 r;cases rx;have fin:∀(its:List Value),Vals ys its->ys.length<=sizeLine->∀(h':Heap) (c':Nat),(∀ b o',s.heap.get? b=some o'->h'.get? b=some o') ->
   h'.get? s.heap.objs.size=some { cls:=.type "list",dict:=none,data:=.seq its.toArray c',slots:=#[] }->EP X pins σ Q (.ref s.heap.objs.size) { s with heap:=h' }:=fun its r' hz h' c' kp e =>
  ⟨.ref s.heap.objs.size,_,I.laid (t':=s.toks) kp (Yy7 _) (show ObjOk X.prog X.w _ h' _ (.lst ys) from⟨hz,its,c',r',e⟩),rfl,q _ (I.hok.fresh (Yy7 _))⟩
 rcases hq with hq | hq
 ·obtain⟨its,r',pl,hz⟩:=I.list hq;have hlen:=r'.length
  obtain⟨o,ho,hc,n,hd⟩:=pl.isList;exact call_list_seq p (.inl rfl) ho hc hd (fun h' c' kp e=>fin its r' hz h' c' kp e) (by simp only [Ya] <;> omega)
 ·obtain⟨its,r',pl,hz⟩:=I.tuple hq;have hlen:=r'.length
  obtain⟨o,ho,hc,n,hd⟩:=pl;exact call_list_seq p (.inr rfl) ho hc hd (fun h' c' kp e=>fin its r' hz h' c' kp e) (by simp only [Ya] <;> omega)
theorem ZB3:Zb3 X (.type "tuple") (fun xs H Q=>∃ p ys,xs=[.ref p]/\((SqL X.K H p ys/\∀ l,H l=none->Q (.ref l) (upd H l (.tup ys)))\/(SqT X.K H p ys/\Q (.ref p) H))):=by
 intro pins s σ H xs us Q I r h;obtain⟨p,ys,rfl,h⟩:=h;obtain⟨u,rfl,rx⟩:=Zz75 r;cases rx;rcases h with ⟨hq,q⟩ | ⟨hq,q⟩
 ·obtain⟨its,r',pl,hz⟩:=I.list hq;have hlen:=r'.length
  refine call_tuple_list pl.isList (fun h' kp=>?_) (by simp only [Ya] <;> omega)
  have I1:Inv X pins σ H { s with heap:=h' }:=I.kept (t':=s.toks) kp;have I2:Inv X pins σ (upd H h'.objs.size (.tup ys)) { s with heap:=h'.push { cls:=.type "tuple",data:=.seq its.toArray } } :=
   I1.laid (t':=s.toks) (fun b o e=>Yy5 _ e) (Yy7 _) (show ObjOk X.prog X.w _ _ _ (.tup ys) from⟨hz,its,r',IsTup.new _ _⟩)
  exact⟨.ref h'.objs.size,_,I2,rfl,q _ (I1.hok.fresh (Yy7 _))⟩
 ·obtain⟨its,r',pl,hz⟩:=I.tuple hq;exact call_tuple_same pl ⟨.ref p,H,I,rfl,q⟩
def tyV(K:PySem.W.Frag)(T:String)(x:V)(H:Hp):Prop:=match x with
 | .str _=>T="str"
 | .int _=>T="int"
 | .ref p=>(T="list"/\∃ xs,SqL K H p xs)\/(T="tuple"/\∃ o,K.lookup p=some o/\o.cls=.type "tuple"/\o.dict=none) \/
   (T="dict"/\((∃ kvs,H p=some (.dK kvs))\/∃ kvs,H p=some (.dT kvs)))\/(T="set"/\∃ S n,H p=some (.set S n))
 | _=>False
theorem Zy10{pins:List (Addr × Obj)}{σ:St}{H:Hp}{s:Shared}{T:String}{x:V}{v:Value}(I:Inv X pins σ H s)(r:RelV x v)(ty:tyV X.K T x H) :
  s.TypeIs v T/\∀ a,v=.ref a->∃ ob,s.heap.get? a=some ob/\ob.dict=none:=by
 cases x with
 | str z =>
  obtain⟨t,rfl⟩:=r;cases (show T="str" from ty);exact⟨typeIs_str s z t,fun _ e=>nomatch e⟩
 | int i =>
  obtain⟨t,rfl⟩:=r;cases (show T="int" from ty);exact⟨typeIs_int s i t,fun _ e=>nomatch e⟩
 | ref p =>
  cases r;rcases ty with ⟨rfl,xs,hq⟩ | ⟨rfl,o,hk,hc,hd⟩ | ⟨rfl,hk⟩ | ⟨rfl,S,n,hk⟩
  ·obtain⟨its,_,pl,_⟩:=I.list hq;refine⟨pl.isList.typeIs,fun a e=>?_⟩;cases e;obtain⟨o,n,e,c,hd,_⟩:=pl;exact⟨o,e,hd⟩
  ·refine⟨⟨o,I.kIn p o hk,hc⟩,fun a e=>?_⟩;cases e;exact⟨o,I.kIn _ o hk,hd⟩
  ·have z:∃ o,s.heap.get? p=some o/\o.ExactDict:=by
    rcases hk with ⟨kvs,hk⟩ | ⟨kvs,hk⟩
    ·obtain⟨_,_,_,_,o,_,_,e,ex,_⟩:=I.hok p _ hk;exact⟨o,e,ex⟩
    ·obtain⟨_,_,_,_,o,_,_,e,ex,_⟩:=I.hok p _ hk;exact⟨o,e,ex⟩
   obtain⟨o,e,ex⟩:=z;refine⟨⟨o,e,ex.1⟩,fun a e2=>?_⟩;cases e2;exact⟨o,e,ex.2.1⟩
  ·obtain⟨o,_,_,_,e,ex,_⟩:=I.hok p _ hk;refine⟨⟨o,e,ex.1⟩,fun a e2=>?_⟩;cases e2;exact⟨o,e,ex.2.1⟩
 | _=>exact False.elim ty
def tBM0(K:PySem.W.Frag)(T:String)(r:V->List V->Hp->VK->Prop)(to:TE):TE:=fun σ H Q=>to σ H fun x H1=>tyV K T x H1/\r x [] H1 Q
def tBM(K:PySem.W.Frag)(T:String)(r:V->List V->Hp->VK->Prop)(to:TE)(t:TA):TE:=fun σ H Q=>to σ H fun x H1=>tyV K T x H1/\t σ H1 fun xs H2=>r x xs H2 Q
variable{o e:Expr}{es:List Expr}{to:TE}{t:TA}{name:Str}{apos cpos:Pos}{T id:String}{r:V->List V->Hp->VK->Prop}
theorem ZR12 (pa:PlainAttrs T) (slot:Slot T name id) (hty:typeOf (.builtin id)=pure (.type "method_descriptor")) (hm:MtR X id r) (ho:PE X o to)
  (hbase:attributeBase o name X.env (eval o X.env)=eval o X.env:=by rfl) (hline:(apos.endLine == cpos.line)=true:=by rfl):PE X (.Call (.Attribute o name apos) [] [] cpos) (tBM0 X.K T r to):=by intro pins s σ H Q I h;refine wpAny_Call_method0_late hbase hline (thn (ho pins s σ H _ I h) fun v s1 hz0=>?_);obtain⟨x,H1,I1,r1,ty,q1⟩:=hz0;obtain⟨h1,h2⟩:=Zy10 I1 r1 ty;exact⟨T,id,pa,slot,hty,h1,h2,Calls.callWith_builtin rfl (PySem.evalArgs_none (hm pins s1 σ H1 x [] v [] Q I1 r1 .nil q1))⟩
theorem ZK13 (pa:PlainAttrs T) (slot:Slot T name id) (hty:typeOf (.builtin id)=pure (.type "method_descriptor")) (hm:MtR X id r) (ho:PE X o to) (ha:PA X (e :: es) t)
  (hbase:attributeBase o name X.env (eval o X.env)=eval o X.env:=by rfl)
  (hfew:((backTo cpos (starEach (e :: es) X.env)).all (fun x=>!x.1) && (backToKw cpos (keywordEach [] X.env)).all (fun x=>x.1.isSome)
   && decide ((e :: es).length+([]:List Keyword).length+(if ([]:List Keyword).isEmpty then 0 else 1)<30))=true:=by rfl)
  (hline:(apos.endLine == cpos.line)=true:=by rfl) (hs:starEach (e :: es) X.env=(false,eval e X.env) :: starEach es X.env:=by rfl) (hplain:(backTo cpos (starEach es X.env)).any (·.1)=false:=by rfl) :
  PE X (.Call (.Attribute o name apos) (e :: es) [] cpos) (tBM X.K T r to t):=by
 intro pins s σ H Q I h;refine wpAny_Call_method_late hbase hfew hline rfl (thn (ho pins s σ H _ I h) fun v s1 hz0=>?_);obtain⟨x,H1,I1,r1,ty,q1⟩:=hz0;obtain⟨h1,h2⟩:=Zy10 I1 r1 ty;refine⟨T,id,pa,slot,hty,h1,h2,?_⟩;have hA:=ha cpos pins s1 σ H1 _ I1 q1
 rw[hs]at hA ⊢;refine Calls.callWith_builtin (by show(false || (backTo cpos (starEach es X.env)).any (·.1))=false;rw[hplain] <;> rfl) (Calls.evalArgs_plain ?_)
 exact thn hA fun us s2 ⟨vs,H2,I2,r2,q2⟩=>hm pins s2 σ H2 x vs v us Q I2 r1 r2 q2
end
def MtM(X:Cx)(id:String)(r:V->List V->Hp->VK->Prop):Prop :=
 ∀(pins:List (Addr × Obj)) (s:Shared) (σ:St) (H:Hp) (x:V) (xs:List V) (v:Value) (us:List Value) (Q:VK),Inv X pins σ H s->RelV x v->Vals xs us->r x xs H Q ->
  wpAny (model X.prog X.w) X.A (call (.builtin id) (v :: us)) (EP X pins σ Q) X.xe s
theorem Vals.one{x:V}{us:List Value}(r:Vals [x] us):∃ u,us=[u]/\RelV x u:=by
 cases r with
 | cons a r=>cases r;exact⟨_,rfl,a⟩
theorem Vals.eraseIdx:∀ {xs:List V} {us:List Value} (i:Nat),Vals xs us->Vals (xs.eraseIdx i) (us.eraseIdx i)
 | _,_,_,.nil=>.nil
 | _,_,0,.cons _ t=>t
 | _,_,i+1,.cons r t=>.cons r (Vals.eraseIdx i t)
theorem Vals.rep{xs:List V}{us:List Value}(h:Vals xs us):∀ k:Nat,Vals (List.replicate k xs).flatten (List.replicate k us).flatten
 | 0=>.nil
 | k+1=>by rw[Y0J,Y0J,Y1t,Y1t];exact Vals.append h (Vals.rep h k)
theorem Zq4{α:Type}:∀(l:List α) (i:Nat),(l.eraseIdx i).length<=l.length
 | [],_=>Yy7 _
 | _ :: _,0=>Y0P _
 | _ :: r,i+1=>Nat.succ_le_succ (Zq4 r i)
theorem ZE4(its:List Value):∀(k:Nat) (acc:List Value),
  List.foldl (fun x1 x2=>x1++x2) acc.toArray (List.replicate k its.toArray)=(acc++(List.replicate k its).flatten).toArray
 | 0,acc=>by simp
 | k+1,acc=>by
  have e:acc.toArray++its.toArray=(acc++its).toArray:=by simp
  have e2:(acc++its)++(List.replicate k its).flatten=acc++(List.replicate (k+1) its).flatten:=by rw[Y0J,Y1t,Y0f]
  rw[<- e2,<- ZE4 its k (acc++its),<- e,Y0J,Yy29]
section
variable{X:Cx}{pins:List (Addr × Obj)}{σ:St}{H:Hp}{s:Shared}{l:Addr}{xs ys:List V}
theorem Inv.lset{its its':List Value}{n:Nat}{f:Array Value->Array Value}{t':Nat}(I:Inv X pins σ H s)(hH:H l=some (.lst xs))
  (e:s.heap.get? l=some { cls:=.type "list",data:=.seq its.toArray n }) (hf:f its.toArray=its'.toArray) (hv:Vals ys its') (hz:ys.length<=sizeLine) :
  Inv X pins σ (upd H l (.lst ys)) { s with heap:=s.heap.update l (Obj.mapSeq f),toks:=t' }:=by have q:=PySem.IsL.update e f;rw[hf]at q;refine I.write (x:=l) (e:=l) (by rw[hH];exact trivial) (.inl rfl) (fun b' u hb hu=>(YU s.heap (Obj.mapSeq f) (Yy03 hb)).trans hu) ⟨_,q⟩ ?_;exact⟨hz,its',_,hv,q⟩
theorem Inv.lnew{its:List Value}{t':Nat}(I:Inv X pins σ H s)(hv:Vals ys its)(hz:ys.length<=sizeLine) :
  Inv X pins σ (upd H s.heap.objs.size (.lst ys)) { s with heap:=s.heap.push { cls:=.type "list",data:=.seq its.toArray },toks:=t' } :=
 I.laid (fun _ _ q=>Yy5 _ q) (Yy7 _) ⟨hz,its,0,hv,Yo _ rfl⟩
theorem Inv.fresh(I:Inv X pins σ H s):H s.heap.objs.size=none:=I.hok.fresh (Yy7 _)
theorem Inv.lstM (I:Inv X pins σ H s) (hH:H l=some (.lst xs)):xs.length<=sizeLine/\∃(its:List Value) (n:Nat),Vals xs its/\xs.length=its.length/\s.heap.get? l=some { cls:=.type "list",data:=.seq its.toArray n }:=by obtain⟨z,its,n,r,e⟩:=I.hok l _ hH;exact⟨z,its,n,r,r.length,e⟩
theorem Zz46{n:Nat}(h:n<=sizeLine):Builtin.List.listTooLong n=false:=by unfold Builtin.List.listTooLong;exact YW (by omega)
end
section
variable{X:Cx}
def Zz011:V->List V->Hp->VK->Prop:=fun x vs H Q=>∃ l xs y,x=.ref l/\vs=[y]/\H l=some (.lst xs)/\xs.length<sizeLine/\Q .non (upd H l (.lst (xs++[y])))
theorem ZG:MtM X "list.append" Zz011:=by intro pins s σ H x vs v us Q I rx rv h;obtain⟨l,xs,y,rfl,rfl,hH,hz,q⟩:=h;cases rx;obtain⟨u,rfl,ru⟩:=rv.one;obtain⟨z,its,n,r,hl,e⟩:=I.lstM hH;refine Y2h F.slot_list_append ⟨_,e,rfl⟩ F.entry_list_append (F.args_list_append_2 _ _) (PySem.list_append l its.toArray n u (by rw[Ya];omega)) ⟨e,?_⟩;refine⟨.non,_,I.lset (its':=its++[u]) hH e (by simp) (r.append (.cons ru .nil)) ?_,rfl,q⟩;rw[Yy8,YM];omega
def Zf8:V->List V->Hp->VK->Prop:=fun x vs H Q=>∃ l b xs zs,x=.ref l/\vs=[.ref b]/\H l=some (.lst xs)/\H b=some (.lst zs)/\xs.length+zs.length<=sizeLine/\Q .non (upd H l (.lst (xs++zs)))
theorem ZN2:MtM X "list.extend" Zf8:=by
 intro pins s σ H x vs v us Q I rx rv h;obtain⟨l,b,xs,zs,rfl,rfl,hH,hB,hz,q⟩:=h;cases rx;obtain⟨u,rfl,ru⟩:=rv.one;cases ru;obtain⟨z,its,n,r,hl,e⟩:=I.lstM hH;obtain⟨z2,its2,n2,r2,hl2,e2⟩:=I.lstM hB;have hsz:its.toArray.size+its2.toArray.size<=sizeLine:=by rw[Ya,Ya];omega
 have hlong:¬ (!its.toArray.isEmpty && Builtin.List.listTooLong (its.toArray.size+its2.toArray.size))=true:=by rw[Zz46 hsz,Bool.and_false];exact Ys
 refine Y2h F.slot_list_extend ⟨_,e,rfl⟩ F.entry_list_extend (F.args_list_extend_2 _ _)
  (AutoSeq1.list_extend_list_list_0 l its.toArray n b its2.toArray n2 hlong (by rw[Ya];omega) (by omega)) ⟨e,e2,?_⟩
 refine⟨.non,_,I.lset (its':=its++its2) hH e (by simp) (r.append r2) ?_,rfl,q⟩;rw[Yy8];omega
def ZG12:V->List V->Hp->VK->Prop:=fun x vs H Q=>∃ l xs i k y,x=.ref l/\vs=[.int i]/\H l=some (.lst xs)/\-(2 ^ 63)<=i/\i<2 ^ 63/\seqIndex? i xs.length=some k/\xs[k]?=some y/\Q y (upd H l (.lst (xs.eraseIdx k)))
theorem Zv9:MtM X "list.pop" ZG12:=by
 intro pins s σ H x vs v us Q I rx rv h;obtain⟨l,xs,i,k,y,rfl,rfl,hH,h1,h2,hk,hy,q⟩:=h;cases rx;obtain⟨u,rfl,ru⟩:=rv.one;obtain⟨t,rfl⟩:=ru;obtain⟨z,its,n,r,hl,e⟩:=I.lstM hH;obtain⟨w,hw,rw'⟩:=r.get hy;refine Y2h F.slot_list_pop ⟨_,e,rfl⟩ F.entry_list_pop (F.args_list_pop_2 _ _)
  (MeetsSeq.list_pop_at l its.toArray n i t k w (fitsIndex_both h1 h2) (by rw[Ya,<- hl];exact hk) (by rw[<- YV];exact hw) (by rw[Ya];omega)) ⟨e,?_⟩
 refine⟨y,_,I.lset (its':=its.eraseIdx k) hH e ?_ (r.eraseIdx k) ?_,rw',q⟩
 ·show its.toArray.eraseIdxIfInBounds k=(its.eraseIdx k).toArray;rw[List.eraseIdxIfInBounds_toArray]
 ·have:=Zq4 xs k
  omega
def rCat:R2:=fun x y H Q=>∃ l b xs zs,x=.ref l/\y=.ref b/\H l=some (.lst xs)/\H b=some (.lst zs)/\xs.length+zs.length<=sizeLine/\∀ p,H p=none->Q (.ref p) (upd H p (.lst (xs++zs)))
theorem Zg11:OpR X (binaryOp .Add) rCat:=by
 intro pins s σ H x y v u Q I rx ry h;obtain⟨l,b,xs,zs,rfl,rfl,hH,hB,hz,q⟩:=h;cases rx;cases ry;obtain⟨z,its,n,r,hl,e⟩:=I.lstM hH;obtain⟨z2,its2,n2,r2,hl2,e2⟩:=I.lstM hB;refine PySem.P.add_list e e2 ?_ (by rw[Ya,Ya];omega);have ea:its.toArray++its2.toArray=(its++its2).toArray:=by simp
 rw[ea];exact⟨.ref _,_,I.lnew (t':=s.toks) (r.append r2) (by rw[Yy8];omega),rfl,q _ I.fresh⟩
def rRep:R2:=fun x y H Q=>∃ l k xs,x=.ref l/\y=.int k/\H l=some (.lst xs)/\-(2 ^ 63)<=k/\k<2 ^ 63/\xs.length * k.toNat<=sizeLine /\
 ∀ p,H p=none->Q (.ref p) (upd H p (.lst (List.replicate k.toNat xs).flatten))
theorem Zv11{α:Type}(xs:List α)(k:Nat):(List.replicate k xs).flatten.length=k * xs.length:=by
 induction k with
 | zero=>simp
 | succ k ih=>rw[Y0J,Y1t,Yy8,ih,Nat.succ_mul,Nat.add_comm]
theorem Zb11:OpR X (binaryOp .Mult) rRep:=by
 intro pins s σ H x y v u Q I rx ry h;obtain⟨l,k,xs,rfl,rfl,hH,h1,h2,hz,q⟩:=h;cases rx;obtain⟨t,rfl⟩:=ry;obtain⟨z,its,n,r,hl,e⟩:=I.lstM hH;have hlen:its.toArray.size * k.toNat<=sizeLine:=by rw[Ya,<- hl];exact hz
 have hcap:¬ its.toArray.size * k.toNat > (2 ^ 63 - 1) / 8:=by
  have:(sizeLine:Nat)<=(2 ^ 63 - 1) / 8:=by decide
  omega
 have hfit:¬ (!Builtin.List.listFitsIndex k)=true:=by rw[fitsIndex_both h1 h2];exact Ys
 have hlong:¬ Builtin.List.listTooLong (its.toArray.size * k.toNat)=true:=by rw[Zz46 hlen];exact Ys
 have hnew:List.foldl (fun x1 x2=>x1++x2) #[] (List.replicate (if its.toArray.isEmpty=true then 0 else k.toNat) its.toArray)=(List.replicate k.toNat its).flatten.toArray:=by
  have f0:∀ m:Nat,List.foldl (fun x1 x2=>x1++x2) #[] (List.replicate m its.toArray)=(List.replicate m its).flatten.toArray:=fun m=>by
   have:=ZE4 its m []
   rw[Y0L]at this;exact this
  rw[f0];cases its with
  | nil=>simp
  | cons a r'=>rw[if_neg (by simp)]
 refine wpAny_binaryOp_repeat_ref (T:="list") (U:="int") (by decide) ⟨_,e,rfl⟩ (fun s'=>typeIs_int s' k t) noFill_list_mul F.fills_int_mul F.slot_int_rmul repeat_list F.slot_int_index.lookup
  (Y2h F.slot_int_rmul (typeIs_int s k t) F.entry_int_rmul (F.args_int_rmul_2 _ _) (int___rmul___int_list k t l its.toArray n)
   ⟨e,rfl,⟨_,e,rfl⟩,Y2h F.slot_list_mul ⟨_,e,rfl⟩ F.entry_list_mul (F.args_list_mul_2 _ _) (AutoListH.list___mul___list_int_3 l its.toArray n k t hfit hcap hlong) ⟨e,?_⟩⟩)
 rw[hnew];exact⟨.ref _,_,I.lnew (t':=s.toks) (r.rep k.toNat) (by rw[Zv11,Nat.mul_comm];exact hz),rfl,q _ I.fresh⟩
end
section
variable{κ:Type}[DecidableEq κ]
def valV(kvs:List (κ × V))(k:κ):Option V:=(kvs.find? fun kv=>decide (kv.1=k)).map (·.2)
def putK(kvs:List (κ × V))(k:κ)(v:V):List (κ × V) :=
 if (kvs.any fun kv=>decide (kv.1=k))=true then kvs.map (fun kv=>if kv.1=k then (kv.1,v) else kv) else kvs++[(k,v)]
theorem ZH3{p:κ × V}{r:List (κ × V)}{k:κ}(e:p.1=k):valV (p :: r) k=some p.2:=by simp[valV,Y2a,e]
theorem ZI3{p:κ × V}{r:List (κ × V)}{k:κ}(e:¬ p.1=k):valV (p :: r) k=valV r k:=by simp[valV,Y2a,e]
theorem Zv5(k:κ):∀ kvs:List (κ × V),(kvs.any fun kv=>decide (kv.1=k))=(valV kvs k).isSome
 | []=>rfl
 | p :: r=>by
  rw[Yy25];by_cases e:p.1=k
  ·simp only [ZH3 e,Yl e,Bool.true_or,Option.isSome_some]
  ·rw[ZI3 e,YW e,Bool.false_or];exact Zv5 k r
theorem Zg5(kvs:List (κ × V))(k:κ)(v:V):(putK kvs k v).length<=kvs.length+1:=by
 unfold putK;split
 ·rw[Yb];omega
 ·rw[Yy8,YA,Yy17];omega
theorem Zg9{kvs:List (κ × V)}{k:κ}(v:V)(h:valV kvs k=none):putK kvs k v=kvs++[(k,v)]:=by unfold putK;rw[Zv5,h];exact if_neg (by decide)
theorem KV.val{kvs:List (κ × V)}{vs:List (κ × Value)}(r:KV kvs vs)(k:κ):RelO (valV kvs k) (valueAt vs k):=by
 unfold KV at r
 induction r with
 | nil=>exact True.intro
 | @cons p q ps qs h t ih =>
  obtain⟨h1,h2⟩:=h;by_cases e:p.1=k
  ·have e':q.1=k:=h1.symm.trans e;have b:valueAt (q :: qs) k=some q.2:=by simp[valueAt,Y2a,e']
   rw[ZH3 e,b];exact h2
  ·have e':¬ q.1=k:=fun z=>e (h1.trans z);have b:valueAt (q :: qs) k=valueAt qs k:=by simp[valueAt,Y2a,e']
   rw[ZI3 e,b];exact ih
theorem KV.any{kvs:List (κ × V)}{vs:List (κ × Value)}(r:KV kvs vs)(k:κ):(kvs.any fun kv=>decide (kv.1=k))=vs.any fun kv=>decide (kv.1=k):=by
 unfold KV at r
 induction r with
 | nil=>rfl
 | cons h t ih=>rw[Yy25,Yy25,ih,h.1]
theorem KV.repl{kvs:List (κ × V)}{vs:List (κ × Value)}(r:KV kvs vs)(k:κ){y:V}{u:Value}(ry:RelV y u) :
  KV (kvs.map fun kv=>if kv.1=k then (kv.1,y) else kv) (vs.map fun kv=>if kv.1=k then (kv.1,u) else kv):=by
 unfold KV at r ⊢
 induction r with
 | nil=>exact .nil
 | @cons p q ps qs h t ih =>
  rw[YI,YI];refine .cons ?_ ih;obtain⟨h1,h2⟩:=h;by_cases e:p.1=k
  ·rw[if_pos e,if_pos (h1.symm.trans e)];exact⟨h1,ry⟩
  ·rw[if_neg e,if_neg (fun z=>e (h1.trans z))];exact⟨h1,h2⟩
theorem KV.put{kvs:List (κ × V)}{vs:List (κ × Value)}(r:KV kvs vs)(k:κ){y:V}{u:Value}(ry:RelV y u):KV (putK kvs k y) (stored vs k u):=by
 unfold putK stored;rw[r.any k];by_cases e:(vs.any fun kv=>decide (kv.1=k))=true
 ·rw[if_pos e,if_pos e];exact r.repl k ry
 ·rw[if_neg e,if_neg e];exact Paired.snoc r ⟨rfl,ry⟩
theorem KV.length{kvs:List (κ × V)}{vs:List (κ × Value)}(r:KV kvs vs):kvs.length=vs.length:=Paired.length r
end
theorem ZR13{P:Program}{w:World}{k:Key}{u:Value}(r:RelV (kV k) u):(Zz91 P w).is k u=true:=by
 cases k with
 | inl i=>obtain⟨t,e⟩:=(show ∃ t,u=Value.int i t from r);subst e;exact Zf5 P w i t
 | inr x=>obtain⟨t,e⟩:=(show ∃ t,u=Value.str x t from r);subst e;exact Ze5 P w x t
section
variable{P:Program}{w:World}{H:Hp}{h:Heap}{a:Addr}
theorem ZF13{u:HO}(ok:HOk P w H h)(e:Rd H a u):ObjOk P w H h a u:=e.ok ok
theorem ZW13{kvs:List (Key × V)}(ok:HOk P w H h)(e:Rd H a (.dK kvs)):kvs.length<=sizeLine/\(a == sysModules)=false/\∃ vs,KV kvs vs/\h.DictOf (Zz91 P w) a vs :=
 show ObjOk P w H h a (.dK kvs) from ZF13 ok e
theorem Za13{kvs:List (Key × V)}(ok:HOk P w H h)(e:H a=some (.dK kvs)):kvs.length<=sizeLine/\(a == sysModules)=false/\∃ vs,KV kvs vs/\h.DictOf (Zz91 P w) a vs:=ZW13 ok (.inl e)
end
section
variable{X:Cx}{pins:List (Addr × Obj)}{σ:St}{H:Hp}{s:Shared}{a:Addr}
theorem Inv.big(I:Inv X pins σ H s):sysModules<s.heap.objs.size:=by have h:mainGlobals<s.heap.objs.size:=(I.mod.glob.keeps I.bk).lt;exact Nat.lt_trans (by decide) h
theorem Zz012{h':Heap}{t':Nat}{ob:HO}(I:Inv X pins σ H s)(mu:Mut (H a))(hs:Heap.SameBut a s.heap h')(he:∃ q,h'.get? a=some q)(new:ObjOk X.prog X.w (upd H a ob) h' a ob) :
  Inv X pins σ (upd H a ob) { s with heap:=h',toks:=t' } :=
 I.write (x:=a) (e:=a) mu (.inl rfl) (fun b q hb z=>(hs.2 b hb).trans z) he new
theorem Zb13{P:Program}{w:World}{H':Hp}{h':Heap}{kvs:List (Key × V)}{vs:List (Key × Value)}(z:kvs.length<=sizeLine)(hd:(a == sysModules)=false)(rel:KV kvs vs)(dd:h'.DictOf (Zz91 P w) a vs) :
  ObjOk P w H' h' a (.dK kvs):=⟨z,hd,vs,rel,dd⟩
end
theorem Zz410 {P:Program} {w:World} {H:Hp} (h:Heap) (hb:sysModules<h.objs.size):ObjOk P w H (h.push { cls:=.type "dict",data:=.dict #[] }) h.objs.size (.dK []) :=
 ⟨Yj _,Y1g.mpr (Yy03 (Yu hb)),[],.nil,Heap.DictOf.new h⟩
def Zu12:TE:=fun _ H Q=>∀ p,H p=none->Q (.ref p) (upd H p (.dK []))
section
variable{X:Cx}{pos:Pos}
theorem Zo9:PE X (.Dict [] [] pos) Zu12:=fun pins s σ H Q I h =>
 wpAny_Dict_empty ⟨.ref s.heap.objs.size,_,I.laid (a:=s.heap.objs.size) (o:=.dK []) (t':=s.toks) (fun _ _ q=>Yy5 _ q) (Yy7 _) (Zz410 s.heap I.big),rfl,h _ (I.hok.fresh (Yy7 _))⟩
end
structure M1 (X:Cx) (o:Expr) (m:Str) (apos:Pos) (e:Expr) (cpos:Pos):Prop where
 base:attributeBase o m X.env (eval o X.env)=eval o X.env
 few:((backTo cpos (starEach [e] X.env)).all (fun x=>!x.1) && (backToKw cpos (keywordEach [] X.env)).all (fun x=>x.1.isSome)
  && decide (([e]:List Expr).length+([]:List Keyword).length+(if ([]:List Keyword).isEmpty then 0 else 1)<30))=true
 line:(apos.endLine == cpos.line)=true
 trees:backTo cpos (starEach [e] X.env)=[(false,eval e X.env)]
structure M2 (X:Cx) (o:Expr) (m:Str) (apos:Pos) (e f:Expr) (cpos:Pos):Prop where
 base:attributeBase o m X.env (eval o X.env)=eval o X.env
 few:((backTo cpos (starEach [e,f] X.env)).all (fun x=>!x.1) && (backToKw cpos (keywordEach [] X.env)).all (fun x=>x.1.isSome)
  && decide (([e,f]:List Expr).length+([]:List Keyword).length+(if ([]:List Keyword).isEmpty then 0 else 1)<30))=true
 line:(apos.endLine == cpos.line)=true
 trees:backTo cpos (starEach [e,f] X.env)=[(false,eval e X.env),(false,eval f X.env)]
end L2
namespace Att
open PySem PySem.W PySem.Calls PyProof.Rows
theorem Zr2{P:Params}{h:Heap}:∀(ns:List Int) (vs:List Value),WellAll P h vs (ns.map WData.int)->IntsAre vs ns:=by
 intro ns
 induction ns with
 | nil =>
  intro vs w;rw[List.map_nil]at w;cases w;exact .nil
 | cons n ns ih =>
  intro vs w;rw[YI]at w;cases w with
  | cons a b =>
   cases a;exact .cons _ _ (ih _ b)
theorem Zg7{l:OpenLaw}{n:Nat}(hn:l.most=some n){P:Params}{h:Heap}{args:List WData}{vals:List Value}
  (hpre:l.row.toRowW.claim.pre args=true) (hwl:WellAll P h vals args) :
  ∃ a vs ns,vals=[Value.ref a]/\args=[WData.list (ns.map WData.int)]/\h.get? a=some { cls:=.type "list",data:=.seq vs.toArray }/\IntsAre vs ns/\ns.length<=n:=by
 have hsh:WShape.hasAll [] args [.list .int]=true:=(pre_splitW hpre).1;have hc:l.pre.holds [] { args:=args }=true:=(pre_splitW hpre).2
 obtain⟨d,r,rfl,h1,h2⟩:=hasAllW_cons hsh;obtain rfl:=hasAllW_nil h2;obtain⟨xs,rfl,h3⟩:=hasW_list h1;obtain⟨ns,rfl⟩:=items_int h3;have hlen:ns.length<=n:=by
  unfold OpenLaw.pre at hc;have h4:(WTm.not (.lt (.lit (.int (n:Int))) (.len (.arg 0)))).holds [] { args:=[.list (ns.map .int)] }=true:=by have h4:=(holds_andW hc).1;rw[hn]at h4;exact h4
  have h5:=condW_of h4 (w_not (w_lt w_lit (w_len_list (w_arg rfl))));rw[Yb]at h5;refine Y1z fun q=>?_;have q':(n:Int)<((ns.length:Nat):Int):=by omega
  first
   | (rw[Yl q']at h5;exact absurd h5 (by decide))
   | (simp at h5;omega)
 cases hwl with
 | cons w1 w2 =>
  cases w2;cases w1 with
  | list ho hall=>exact⟨_,_,ns,rfl,rfl,ho,Zr2 ns _ hall,hlen⟩
theorem Zo7(l:OpenLaw)(args:List WData):l.row.toRowW.claim.post args (.bool true) args=true :=
 postW_of (r:=l.row.toRowW) (X:=(true == true))
  (show WShape.has [] (.bool true) .bool=true by first | rfl | decide | simp[WShape.has,WShape.arms,WShape.armsAll])
  (show(WTm.eq .res (.lit (.bool true))).value [] { args:=args,res:=some (.bool true),after:=args }=some (.bool (true == true)) from w_eq_bool (w_res rfl) w_lit) rfl
theorem attach_call{l:OpenLaw}{n:Nat}{q:Program}{loose:List Str}{XP:(Str->Option Value)->Heap->Prop}{YP:World->Heap->Prop}{d:DefRec}
  (hn:l.most=some n) (hdf:d.params.defaults=[])
  (call:∀(w:World) (s₀ s₁:Shared) (mg mb:Str->Option Value) (fa:Addr) (o:Obj) (pm cd doc:Value) (a:Addr) (vs:List Value) (ns:List Int),
   Ground q loose [] XP w s₀ mg mb s₁.heap->YP w s₁.heap ->
   s₁.heap.get? fa=some o->o.data=.func (docDef d.name d.params d.body d.scope pm cd doc)->s₁.heap.CodeRec cd d.name->mg d.name=some (.ref fa) ->
   s₁.heap.get? a=some { cls:=.type "list",data:=.seq vs.toArray }->IntsAre vs ns->ns.length<=n->s₁.gens=#[] ->
   codeAny (model l.prog w) callerA (.call (.ref fa) ⟨[.ref a],[]⟩) (fun r s'=>r=.ok (.ret (.bool true))/\OldK s₁.heap s'.heap/\s'.os=s₁.os/\AllBare s'.gens) s₁) :
  WalkO q loose XP YP l.row.toRowW d [] (fun f vs=>PySem.call f vs):=by intro w s₀ s₁ mg mb G Y fa o pm cd doc dV kV ho hd hcd hD hmg hg args vals as hpre hlay hrd hwl hlo;obtain rfl:dV=.none:=Dflts.none hD hdf;obtain rfl:kV=.none:=Dflts.noKw hD;obtain⟨a,vs,ns,rfl,rfl,hobj,hints,hlen⟩:=Zg7 hn hpre hwl;refine enter_call (Y1x (call w s₀ s₁ mg mb fa o pm cd doc a vs ns G Y ho (fd_plain hd) hcd hmg hobj hints hlen hg) fun r s' hq=>?_);obtain⟨rfl,h2,h3,h4⟩:=hq;exact⟨.inl ⟨.bool true,.bool true,[],rfl,fun _=>rfl,.bool true,Zo7 l _,fun _=>⟨List.Pairwise.nil,fun _ hm=>(nomatch hm)⟩⟩,h2,h3,h4⟩
section
def ZQ13(h:Heap)(L d:Addr):List (Addr × Obj):=(List.range h.objs.size).filterMap fun a=>if a=L\/a=d then none else (h.get? a).map fun o=>(a,o)
end
end Att
namespace L2
open PySem PySem.Spec PyProof.Rows
theorem Zb4:∀ {vs:List Value} {ns:List Int},IntsAre vs ns->Vals (ns.map V.int) vs
 | _,_,.nil=>.nil
 | _,_,.cons n t h=>.cons ⟨t,rfl⟩ (Zb4 h)
abbrev KOf{K:PySem.W.Frag}{h:Heap}(_:K.In h):PySem.W.Frag:=K
def ZG11(s:Stmt)(j:Nat):Stmt:=match s with
 | .ClassDef _ _ _ body _ _ _ _ _ _ _=>body.getD j (.Pass ⟨0,0,0,0⟩)
 | _=>.Pass ⟨0,0,0,0⟩
def Zm2(s:Stmt):Arguments:=match s with
 | .FunctionDef _ a _ _ _ _ _ _ _ _=>a
 | _=>{ posonlyargs:=[],args:=[],vararg:=none,kwonlyargs:=[],kw_defaults:=[],kwarg:=none,defaults:=[] }
def Zu1(s:Stmt):List Stmt:=match s with
 | .FunctionDef _ _ b _ _ _ _ _ _ _=>b
 | _=>[]
def Zz7(s:Stmt):Scope:=match s with
 | .FunctionDef _ _ _ _ _ _ sc _ _ _=>sc
 | _=>{ kind:=.function,names:=[],isGenerator:=false,isCoroutine:=false }
abbrev CX0:CXT:=fun _ _ _ _ _ _=>False
abbrev E0:XK:=fun _ _ _=>False
theorem Zq{X:Cx}:Zz77 CX0 X E0:=fun _ _ _ _ _ _ _ h=>h.elim
structure Fun (K:PySem.W.Frag) (x qual:Str) (st:Stmt) (f:Addr) (fd:FuncData):Prop where
 ex:∃(oc:Value) (od:Option Addr) (kV doc pm:Value) (an:Option Addr) (cdv ct:Value) (osl:Array (Option Value)),
  fd=PySem.W.fnOf x qual (Zm2 st) (Zu1 st) (Zz7 st) .none kV doc pm an cdv ct/\K.lookup f=some ⟨oc,od,.func fd,osl⟩/\PySem.W.codeIn K cdv qual=true
 kp:PySem.W.keepIn K (.ref f)=true
section
variable{P:Program}{w:World}{K:PySem.W.Frag}{mg:Str->Option Value}{base:Heap}
theorem Fun.ok{x qual:Str}{st:Stmt}{f:Addr}{fd:FuncData}{N ps:List Str}{k:Nat}{sp:Sp}(F:Fun K x qual st f fd)(S:FnScope N ps (Zz7 st))(len:∀ vs H Q E,sp vs H Q E->vs.length=ps.length)
  (hbody:∀(cdv:Value) (A:Around) (outer:List Env) (s:Shared) (H:Hp) (vs:List V) (Q:VK) (E:XK),Room k (A.deeper (envOfC qual (Zz7 st) s.heap.objs.size f cdv))->sp vs H Q E ->
   ∃ t,PSs (cxOf CX0 P w K mg base N qual (Zz7 st) f cdv A outer s H E).nox (Zu1 st) t/\t { nx:=fun _ H'=>Q .non H',rt:=Q } (start N vs) H):FnOk P w K mg base CX0 (k+1) f fd ps sp:=by obtain⟨oc,od,kV,doc,pm,an,cdv,ct,osl,rfl,lk,hcd⟩:=F.ex;refine Zu13 lk hcd S len fun A outer s H vs Q E hr hsp=>?_;obtain⟨t,h,q⟩:=hbody cdv A outer s H vs Q E hr hsp;exact⟨t,h.nox,q⟩
theorem Fun.binds{x qual:Str}{st:Stmt}{f:Addr}{fd:FuncData}{ps:List Str}(F:Fun K x qual st f fd)
  (h:∀(kV doc pm:Value) (an:Option Addr) (cdv ct:Value) (us:List Value),us.length=ps.length->bindArgs (PySem.W.fnOf x qual (Zm2 st) (Zu1 st) (Zz7 st) .none kV doc pm an cdv ct) ⟨us,[]⟩=pure (ps.zip us)):Binds K fd ps []:=by obtain⟨oc,od,kV,doc,pm,an,cdv,ct,osl,rfl,lk,hcd⟩:=F.ex;exact .all (h kV doc pm an cdv ct)
theorem ZU9{x qual:Str}{st:Stmt}{f:Addr}{oc:Value}{od an:Option Addr}{osl:Array (Option Value)}{kV doc pm cdv ct:Value}(l:K.lookup f=some ⟨oc,od,.func (PySem.W.fnOf x qual (Zm2 st) (Zu1 st) (Zz7 st) .none kV doc pm an cdv ct),osl⟩)
  (c:PySem.W.codeIn K cdv qual=true) (k:PySem.W.keepIn K (.ref f)=true):Fun K x qual st f (PySem.W.fnOf x qual (Zm2 st) (Zu1 st) (Zz7 st) .none kV doc pm an cdv ct):=⟨⟨oc,od,kV,doc,pm,an,cdv,ct,osl,rfl,l,c⟩,k⟩
end
section
variable{X:Cx}
theorem pv (i:Nat) {x:Str} {pos:Pos} (hN:X.N[i]?=some x:=by rfl) (hv:Vis X.env.scope x:=by first | exact Or.inl rfl | exact Or.inr (Or.inl rfl) | exact Or.inr (Or.inr rfl)) (hd:(x == ("__debug__":Str))=false:=by decide)
  (hcd:(x == ("__classdict__":Str))=false:=by decide):PE X (.Name x pos) (tVar i):=ZP12 hN hv hd hcd
end
theorem iteF{A B:Prop}(h:B):if false=true then A else B:=by rw[if_neg Ys];exact h
theorem iteT{A B:Prop}(h:A):if true=true then A else B:=by rw[if_pos rfl];exact h
theorem ite2{c A B:Prop}[Decidable c](h1:c->A)(h2:¬ c->B):if c then A else B:=by
 by_cases h:c
 ·rw[if_pos h];exact h1 h
 ·rw[if_neg h];exact h2 h
def Same(H H':Hp):Prop:=∀ b o,H b=some o->H' b=some o
theorem Same.refl(H:Hp):Same H H:=fun _ _ h=>h
theorem Same.trans{H H1 H2:Hp}(a:Same H H1)(b:Same H1 H2):Same H H2:=fun c o h=>b c o (a c o h)
theorem Same.free{H H':Hp}(e:Same H H'){l:Addr}(h:H' l=Option.none):H l=Option.none:=by
 cases q:H l with
 | none=>rfl
 | some o =>
  rw[e l o q]at h;cases h
theorem Same.seq{K:PySem.W.Frag}{H H':Hp}{a:Addr}{xs:List V}(e:Same H H')(h:SqL K H a xs):SqL K H' a xs:=by
 rcases h with (h | ⟨o,h⟩) | h
 ·exact .inl (.inl (e _ _ h))
 ·exact .inl (.inr ⟨o,e _ _ h⟩)
 ·exact .inr h
def PTs(X:Cx)(ifs:List Expr)(t:TT):Prop :=
 ∀(pins:List (Addr × Obj)) (s:Shared) (σ:St) (H:Hp) (Q:Bool->Hp->Prop),Inv X pins σ H s->t σ H Q ->
  wpAny (model X.prog X.w) X.A (forIn ifs true fun c r=>if r=true then do let ok <- isTrue c X.env (eval c X.env);pure (ForInStep.yield ok) else pure (ForInStep.yield r)) (TP X pins σ Q) X.xe s
def tYes:TT:=fun _ H Q=>Q true H
theorem ZZ{X:Cx}:PTs X [] tYes:=fun _ _ _ H _ I h=>wpAny_tests_nil ⟨H,I,h⟩
theorem Zz72{X:Cx}{c:Expr}{t:TT}(hc:PT X c t):PTs X [c] t:=fun pins s σ H Q I h=>wpAny_tests_one (hc pins s σ H Q I h)
theorem Zz44{prog:Program}{w:World}{A:Around}{s:Shared}{R:Result->Shared->Prop}{elt target iter:Expr}{ifs:List Expr}{scope:Scope}{pos:Pos}{it acc:Value}{env:Env}(J:Nat->Shared->Prop)
  (turn:∀ n s,J n s->wpAny (model prog w) A (pyNext it) (fun r s1=>match r with
   | none=>R (.ok .next) s1
   | some v=>wpAny (model prog w) A (letOwnedTupleGo target it v) (fun _ s2=>wpAny (model prog w) A (assign target env v) (fun _ s3 =>
     wpAny (model prog w) A (forIn ifs true fun c r=>if r=true then do let ok <- isTrue c env (eval c env);pure (ForInStep.yield ok) else pure (ForInStep.yield r)) (fun ok s4 =>
      if ok=true then wpAny (model prog w) A (eval elt env) (fun x s5 =>
       wpAny (model prog w) A (call (.builtin "list.append") [acc,x]) (fun _ s6=>∃ m,m<n/\J m s6) (fun _ _=>False) s5) (fun _ _=>False) s4
      else ∃ m,m<n/\J m s4) (fun _ _=>False) s3) (fun _ _=>False) s2) (fun _ _=>False) s1) (fun _ _=>False) s)
  (n:Nat) (h:J n s):codeAny (model prog w) A (.compLoop (.ListComp elt [⟨target,iter,ifs,0⟩] scope pos) 0 it acc env) R s:=by
 refine codeAny_loop rfl J (fun n s hI=>?_) n h;show wpAny _ A ((compTurn (.ListComp elt [⟨target,iter,ifs,0⟩] scope pos) 0 it acc env).onRaise (fun x=>do noteFrame x env;theTreesLotGoes x)) _ _ s
 refine wpAny_noted ?_;rw[compTurn_list];refine Yy4 (wpAny_standAt (Yy4 (Y0O (turn n s hI) (fun r s1 h1=>?_) fun _ _ z=>z.elim)));cases r with
 | none=>exact Yn h1
 | some v =>
  refine Yy4 (Y0O h1 (fun _ s2 h2=>?_) fun _ _ z=>z.elim);refine Yy4 (Y0O h2 (fun _ s3 h3=>Yy4 (Y0O h3 (fun ok s4 h4=>?_) fun _ _ z=>z.elim)) fun _ _ z=>z.elim);cases ok with
  | false=>exact Yn ⟨rfl,h4⟩
  | true =>
   exact Yy4 (Yy4 (Y0O h4 (fun x s5 h5=>Yy4 (Y0O h5 (fun _ s6 h6=>Yn (Yn ⟨rfl,h6⟩)) fun _ _ z=>z.elim)) fun _ _ z=>z.elim))
def ZV4(cells:List (Str × Addr)):List (Str × NameKind)->List (Str × Addr)->List (Str × Addr)
 | [],acc=>acc
 | (n,k) :: r,acc=>if k == .free then ZV4 cells r ((n,(cells.lookup n).getD 0) :: acc) else ZV4 cells r acc
theorem ZA3{env:Env}:∀(names:List (Str × NameKind)) (acc:List (Str × Addr)),(∀ y∈names,y.2=.free->∃ c,env.cells.lookup y.1=some c) ->
  (forIn names acc fun(x:Str × NameKind) (cs:List (Str × Addr))=>(if (x.2 == .free)=true then do let a <- cellOf env x.1;pure (ForInStep.yield ((x.1,a) :: cs)) else pure (ForInStep.yield cs):Sem (ForInStep (List (Str × Addr)))))=pure (ZV4 env.cells names acc)
 | [],acc,_=>rfl
 | (n,k) :: r,acc,h=>by
  have ih:=fun acc=>ZA3 r acc fun y hy=>h y (Yg _ hy);rw[List.forIn_cons];unfold ZV4;by_cases hk:(k == NameKind.free)=true
  ·obtain⟨c,hc⟩:=h (n,k) Ye (by simpa using hk);have e:cellOf env n=pure c:=by unfold cellOf;rw[show env.cells.lookup n=some c from hc]
   simp only [hk,if_true,e,pure_bind];rw[ih,show env.cells.lookup n=some c from hc];rfl
  ·simp only [hk,Y2n,if_false,pure_bind];exact ih acc
theorem ZZ6{env:Env}{scope:Scope}(h:∀ y∈scope.names,y.2=.free->∃ c,env.cells.lookup y.1=some c):closureFor scope env=pure (ZV4 env.cells scope.names []):=by have e:=ZA3 scope.names [] h;unfold closureFor;simp only [bind_pure]at e ⊢;exact e
theorem Zz43{env:Env}:∀(names:List (Str × NameKind)) (acc:List (Str × Addr)),(∀ y∈names,y.2=.free->∃ c,env.cells.lookup y.1=some c)->(∀ x c,acc.lookup x=some c->env.cells.lookup x=some c) ->
  ∀ x c,(ZV4 env.cells names acc).lookup x=some c->env.cells.lookup x=some c
 | [],acc,_,ha,x,c,e=>ha x c e
 | (n,k) :: r,acc,h,ha,x,c,e=>by
  unfold ZV4 at e;by_cases hk:(k == NameKind.free)=true
  ·rw[if_pos hk]at e;obtain⟨d,hd⟩:=h (n,k) Ye (by simpa using hk);refine Zz43 r _ (fun y hy=>h y (Yg _ hy)) (fun y b q=>?_) x c e;rw[Y0Q]at q;by_cases hy:(y == n)=true
   ·rw[hy]at q;have hy':y=n:=by simpa using hy
    have hd':env.cells.lookup n=some d:=hd;rw[hd']at q;have q':d=b:=Yc q
    rw[hy',hd',q']
   ·have hy':(y == n)=false:=by simpa using hy
    rw[hy']at q;exact ha y b q
  ·rw[if_neg hk]at e;exact Zz43 r acc (fun y hy=>h y (Yg _ hy)) ha x c e
theorem Zz53{cells:List (Str × Addr)}:∀(names:List (Str × NameKind)) (acc:List (Str × Addr)) (x:Str),(acc.lookup x).isSome=true->((ZV4 cells names acc).lookup x).isSome=true
 | [],_,_,h=>h
 | (n,k) :: r,acc,x,h=>by
  unfold ZV4;by_cases hk:(k == NameKind.free)=true
  ·rw[if_pos hk];refine Zz53 r _ x ?_;rw[Y0Q];by_cases hx:(x == n)=true
   ·rw[hx];rfl
   ·have hx':(x == n)=false:=by simpa using hx
    rw[hx'];exact h
  ·rw[if_neg hk];exact Zz53 r acc x h
theorem Zz12{cells:List (Str × Addr)}:∀(names:List (Str × NameKind)) (acc:List (Str × Addr)) (x:Str),(x,NameKind.free)∈names->((ZV4 cells names acc).lookup x).isSome=true
 | [],_,_,h=>nomatch h
 | (n,k) :: r,acc,x,h=>by
  unfold ZV4;rcases Yh.mp h with e | h
  ·cases e;rw[if_pos (by rfl)];refine Zz53 r _ _ ?_;rw[Y0Q];simp
  ·by_cases hk:(k == NameKind.free)=true
   ·rw[if_pos hk];exact Zz12 r _ x h
   ·rw[if_neg hk];exact Zz12 r _ x h
theorem ZV{env:Env}:∀ {names:List (Str × NameKind)} {x:Str} {k:NameKind},(names.map fun(n,k)=>if (k == NameKind.free && env.scope.kind == .function && env.kindOf n == some .cell) then (n,NameKind.cell) else (n,k)).lookup x=some k ->
  (k=.cell\/k=.free)->(x,NameKind.free)∈names\/(x,NameKind.cell)∈names
 | [],_,_,h,_=>by simp at h
 | (n,q) :: r,x,k,h,hk=>by
  have h':List.lookup x ((if (q == NameKind.free && env.scope.kind == .function && env.kindOf n == some .cell)=true then (n,NameKind.cell) else (n,q)) :: r.map fun(n,k)=>if (k == NameKind.free && env.scope.kind == .function && env.kindOf n == some .cell) then (n,NameKind.cell) else (n,k))=some k:=h;by_cases hc:(q == NameKind.free && env.scope.kind == .function && env.kindOf n == some .cell)=true
  ·rw[if_pos hc,Y0Q]at h';have hq:q=.free:=by simp only [Y0t,Yy16]at hc;exact hc.1.1
   by_cases hx:(x == n)=true
   ·have hx':x=n:=by simpa using hx
    subst hx';subst hq;exact .inl Ye
   ·have hx':(x == n)=false:=by simpa using hx
    rw[hx']at h';rcases ZV (env:=env) h' hk with z | z
    ·exact .inl (Yg _ z)
    ·exact .inr (Yg _ z)
  ·rw[if_neg hc,Y0Q]at h';by_cases hx:(x == n)=true
   ·rw[hx]at h';have hx':x=n:=by simpa using hx
    subst hx';have e:q=k:=Yc h'
    subst e;rcases hk with rfl | rfl
    ·exact .inr Ye
    ·exact .inl Ye
   ·have hx':(x == n)=false:=by simpa using hx
    rw[hx']at h';rcases ZV (env:=env) h' hk with z | z
    ·exact .inl (Yg _ z)
    ·exact .inr (Yg _ z)
theorem Zv1{env:Env}:∀ {names:List (Str × NameKind)} {x:Str},names.lookup x=some .free ->
  (names.map fun(n,k)=>if (k == NameKind.free && env.scope.kind == .function && env.kindOf n == some .cell) then (n,NameKind.cell) else (n,k)).lookup x=some .cell \/
  (names.map fun(n,k)=>if (k == NameKind.free && env.scope.kind == .function && env.kindOf n == some .cell) then (n,NameKind.cell) else (n,k)).lookup x=some .free
 | [],_,h=>by simp at h
 | (n,q) :: r,x,h=>by
  show List.lookup x ((if (q == NameKind.free && env.scope.kind == .function && env.kindOf n == some .cell)=true then (n,NameKind.cell) else (n,q)) :: _)=_\/List.lookup x ((if (q == NameKind.free && env.scope.kind == .function && env.kindOf n == some .cell)=true then (n,NameKind.cell) else (n,q)) :: _)=_;rw[Y0Q]at h;by_cases hc:(q == NameKind.free && env.scope.kind == .function && env.kindOf n == some .cell)=true
  ·rw[if_pos hc,Y0Q];by_cases hx:(x == n)=true
   ·rw[hx];exact .inl rfl
   ·have hx':(x == n)=false:=by simpa using hx
    rw[hx']at h ⊢;exact Zv1 h
  ·rw[if_neg hc,Y0Q];by_cases hx:(x == n)=true
   ·rw[hx]at h ⊢;exact .inr h
   ·have hx':(x == n)=false:=by simpa using hx
    rw[hx']at h ⊢;exact Zv1 h
def cxC(X:Cx)(N':List Str)(scope:Scope)(C:Addr)(s:Shared)(H:Hp)(fp:List Addr):Cx where
 prog:=X.prog
 w:=X.w
 K:=X.K
 mg:=X.mg
 base:=X.base
 A:=X.A
 N:=N'
 s₀:=s
 H₀:=H
 env:=compEnvC scope (ZV4 X.env.cells scope.names []) C X.env
 outer:=X.stack
 stack:=X.stack
 ex:=fp
 fn:=fun _=>false
 calm:=X.calm
 pn:=[]
 xe:=fun _ _=>False
def σC(o:Nat)(fr:List Nat)(σ:St):St:=List.replicate o none++fr.map fun j=>(σ[j]?).join
structure CompScope (sc0:Scope) (N N':List Str) (o:Nat) (fr:List Nat) (scope:Scope):Prop where
 kind:scope.kind=.function
 nocell:(scope.names.all fun y=>y.2 != .cell)=true
 loc:(scope.names.all fun y=>y.2 != .local || scope.names.lookup y.1 == some .local)=true
 free:(scope.names.all fun y=>y.2 != .free || sc0.names.lookup y.1 == some .cell || sc0.names.lookup y.1 == some .free)=true
 len:N'.length=o+fr.length
 sees:((List.range fr.length).all fun j=>match fr[j]? with
  | none=>false
  | some y=>match N[y]? with
   | none=>false
   | some x=>N'[o+j]? == some x && scope.names.lookup x == some .free)=true
def LcR(J:It)(g:TG)(tt:TT)(te:TE)(o:Nat)(fr:List Nat)(σ:St)(H1:Hp)(Q:VK):Prop:=∃ W:Nat->Nat->List V->Hp->Prop,(∃ m,W 0 m [] H1)/\∀ i m ys H,W i m ys H ->
 (J.stop i H/\ys.length<=sizeLine/\∀ p,H p=none->Q (.ref p) (upd H p (.lst ys))) \/
 (J.go i H/\ys.length<sizeLine/\∀ x H',J.yld i H x H'->g x (σC o fr σ) H' fun σ2 H2=>tt σ2 H2 fun b H3=>if b=true then te σ2 H3 fun y H4=>∃ m',m'<m/\W (i+1) m' (ys++[y]) H4 else ∃ m',m'<m/\W (i+1) m' ys H3)
def tLc(wi:TI)(g:TG)(tt:TT)(te:TE)(o:Nat)(fr:List Nat):TE:=fun σ H Q=>wi σ H fun J H1=>LcR J g tt te o fr σ H1 Q
def OwnG(o:Nat)(g:TG):Prop:=∀(x:V) (ow fr:St) (H:Hp) (Q:St->Hp->Prop),ow.length=o->g x (ow++fr) H Q->g x (ow++fr) H fun σ2 H2=>(∃ ow',ow'.length=o/\σ2=ow'++fr)/\Q σ2 H2
theorem ZH{o i:Nat}(h:i<o):OwnG o (ZA8 i):=fun x ow fr H Q hl q=>⟨⟨ow.set i (some x),by rw[Y0A];exact hl,by rw[List.set_append_left _ _ (by omega)]⟩,q⟩
def Zn12(o:Nat)(g:TGs):Prop:=∀(xs:List V) (ow fr:St) (H:Hp) (Q:St->Hp->Prop),ow.length=o->g xs (ow++fr) H Q->g xs (ow++fr) H fun σ2 H2=>(∃ ow',ow'.length=o/\σ2=ow'++fr)/\Q σ2 H2
theorem Ze2{o:Nat}:Zn12 o gNil:=fun _ ow _ _ _ hl ⟨e,q⟩=>⟨e,⟨ow,hl,rfl⟩,q⟩
theorem ZM{o i:Nat}{u:TGs}(h:i<o)(h2:Zn12 o u):Zn12 o (Zt13 (ZA8 i) u):=by
 rintro xs ow fr H Q hl ⟨v,r,rfl,q⟩;refine⟨v,r,rfl,?_⟩;have q':u r ((ow++fr).set i (some v)) H Q:=q
 show u r ((ow++fr).set i (some v)) H _;rw[List.set_append_left _ _ (by omega)]at q' ⊢;exact h2 r (ow.set i (some v)) fr H Q (by rw[Y0A];exact hl) q'
theorem Zd2{K:PySem.W.Frag}{o n:Nat}{u:TGs}(h:Zn12 o u):OwnG o (gTup K n u):=by rintro x ow fr H Q hl ⟨a,xs,rfl,hs,hn,q⟩;exact⟨a,xs,rfl,hs,hn,h xs ow fr H Q hl q⟩
section
variable{X:Cx}{pins:List (Addr × Obj)}{σ:St}{H:Hp}{s:Shared}{N':List Str}{o:Nat}{fr:List Nat}{scope:Scope}{fp:List Addr}
abbrev Zb1 (us:List Value):Obj:={ cls:=.type "list",data:=.seq us.toArray us.length }
theorem CompScope.nocell'{sc0:Scope}{N:List Str}(S:CompScope sc0 N N' o fr scope):∀ y∈scope.names,y.2≠.cell:=fun y hy e=>by have q:=Y0l.mp S.nocell y hy;rw[e]at q;exact absurd q (by decide)
theorem CompScope.loc'{sc0:Scope}{N:List Str}(S:CompScope sc0 N N' o fr scope):∀ y∈scope.names,y.2=.local->scope.names.lookup y.1=some .local:=fun y hy e=>by have q:=Y0l.mp S.loc y hy;rw[e]at q;simpa using q
theorem CompScope.free'{sc0:Scope}{N:List Str}(S:CompScope sc0 N N' o fr scope)(hs:X.env.scope=sc0):∀ y∈scope.names,y.2=.free->X.env.kindOf y.1=some .cell\/X.env.kindOf y.1=some .free:=fun y hy e=>by
 have q:=Y0l.mp S.free y hy;rw[e]at q;show X.env.scope.names.lookup y.1=_\/X.env.scope.names.lookup y.1=_
 rw[hs];simpa using q
theorem CompScope.sees'{sc0:Scope}{N:List Str}(S:CompScope sc0 N N' o fr scope):∀ j y,fr[j]?=some y->∃ x,N[y]?=some x/\N'[o+j]?=some x/\scope.names.lookup x=some .free:=fun j y e=>by
 have hj:j<fr.length:=(Yy2.mp e).1;have q:=Y0l.mp S.sees j (YD.mpr hj)
 rw[e]at q;dsimp only at q;cases ex:N[y]? with
 | none=>rw[ex]at q;cases q
 | some x =>
  rw[ex]at q;dsimp only at q;rw[Y0t,Yy16,Yy16]at q;exact⟨x,rfl,q.1,q.2⟩
theorem CompScope.cells{sc0:Scope}{N0:List Str}(S:CompScope sc0 N0 N' o fr scope)(hs:X.env.scope=sc0)(I:Inv X pins σ H s):∀ y∈scope.names,y.2=.free->∃ c,X.env.cells.lookup y.1=some c:=fun y hy e=>I.ok.has y.1 (S.free' hs y hy e)
theorem CompScope.sub{sc0:Scope}{N0:List Str}(S:CompScope sc0 N0 N' o fr scope)(hs:X.env.scope=sc0)(I:Inv X pins σ H s):∀ x c,(ZV4 X.env.cells scope.names []).lookup x=some c->X.env.cells.lookup x=some c :=
 Zz43 (env:=X.env) scope.names [] (S.cells hs I) (fun _ _ z=>nomatch z)
theorem Inv.block{sc0:Scope}{N0:List Str}(S:CompScope sc0 N0 N' o fr scope)(hs:X.env.scope=sc0)(hN:X.N=N0)(I:Inv X pins σ H s)(hf:∀ b∈fp,FpOk X pins H b)(hfl:∀ b∈fp,b<s.heap.objs.size){h1:Heap}{C D:Addr}{m:Str->Option Value}{us:List Value}{t:Nat}
  (hC:s.heap.objs.size<=C) (hD:s.heap.objs.size<=D) (hDC:D≠C)
  (old:∀ b ob,s.heap.get? b=some ob->h1.get? b=some ob) (hn:h1.Ns C m) (ha:h1.get? D=some (Zb1 us)):Inv (cxC X N' scope C s H fp) [(D,Zb1 us)] (σC o fr σ) H { s with heap:=h1,toks:=t }:=by
 have sub:=S.sub hs I;have frC:∀ b∈frs X.stack,b<s.heap.objs.size:=fun b hb=>by obtain⟨_,ob,ho,_⟩:=I.stack.mem hb;exact Yp ho
 refine⟨⟨I.ok.mod,S.kind,I.ok.glob,I.ok.blt,hC,fun x y c h1 h2=>I.ok.inj x y c (sub x c h1) (sub y c h2),fun x hx=>?_,fun x c hfx _=>(nomatch hfx),I.ok.hd,I.ok.frames,.inl rfl,fun b hb=>?_,I.bs,YF I.ok.bsz I.sz,fun b ob e hb=>?_,fun b hb hb'=>?_,I.stack,I.stkFree⟩,
  rfl,I.bare,Un.kept old,⟨m,hn,fun i x v e1 e2 e3=>?_⟩,fun x c e=>?_,I.hok.fresh hC,fun x c e=>I.freeC x c (sub x c e),fun p hp=>?_,I.hok.kept old,?_⟩
 ·have hx':(relabel scope X.env).names.lookup x=some .cell\/(relabel scope X.env).names.lookup x=some .free:=hx;have key:(x,NameKind.free)∈scope.names:=by
   rcases hx' with z | z
   ·rcases ZV (env:=X.env) z (.inl rfl) with q | q
    ·exact q
    ·exact absurd rfl (S.nocell' _ q)
   ·rcases ZV (env:=X.env) z (.inr rfl) with q | q
    ·exact q
    ·exact absurd rfl (S.nocell' _ q)
  exact Y1P.mp (Zz12 (cells:=X.env.cells) scope.names [] x key)
 ·obtain⟨f0,f1,f2,f3,f4,f5⟩:=hf b hb;exact⟨Yu (Yq (hfl b hb) hC),fun x c e=>f4 x c (sub x c e)⟩
 ·obtain⟨f0,f1,f2,f3,f4,f5⟩:=hf b hb;rcases f3 with z | z
  ·exact I.ok.noex b ob e z
  ·exact absurd (Yq (Yp e) (YF I.ok.bsz z)) (Y0z _)
 ·obtain⟨f0,f1,f2,f3,f4,f5⟩:=hf b hb;rcases Yh.mp (I.stkSub b hb') with z | z
  ·exact f1 z
  ·exact f2 z
 ·unfold σC at e2;by_cases hi:i<o
  ·rw[Yx (by rw[YC];exact hi),Y0X,if_pos hi]at e2;cases e2
  ·rw[Yy (by rw[YC];exact Nat.not_lt.mp hi),YC,Ym]at e2;cases hy:fr[i - o]? with
   | none=>rw[hy]at e2;cases e2
   | some y =>
    rw[hy]at e2;have e2':(σ[y]?).join=some v:=Yc e2
    have e3':σ[y]?=some (some v):=by
     cases q:σ[y]? with
     | none=>rw[q]at e2';cases e2'
     | some z=>rw[q]at e2';exact Yy04 some e2'
    obtain⟨x',s2,s1,s3⟩:=S.sees' (i - o) y hy;rw[<- hN]at s2;rw[show o+(i - o)=i by omega]at s1;have ex:x=x':=by have e1':N'[i]?=some x:=e1;rw[e1']at s1;exact Yc s1
    subst ex;have hmem:=Y0I s3
    obtain⟨m0,_,hl⟩:=I.loc;have hk:=S.free' hs (x,.free) hmem rfl
    obtain⟨u,ru,lk⟩:=hl y x v s2 e3' (by rcases hk with z | z;exact .inr (.inl z);exact .inr (.inr z));refine⟨u,ru,.inr ⟨Zv1 (env:=X.env) s3,?_⟩⟩;obtain⟨c',hc'⟩:=Y1P.mp (Zz12 (cells:=X.env.cells) scope.names [] x hmem);refine⟨c',hc',?_⟩;rcases lk with ⟨z,_⟩ | ⟨_,c,e,ob,ho,hd⟩
    ·rcases hk with z' | z'
     ·rw[z]at z';cases z'
     ·rw[z]at z';cases z'
    ·have ec:c=c':=by
      have:=sub x c' hc'
      rw[e]at this;exact Yc this
     subst ec;exact⟨ob,old _ _ ho,hd⟩
 ·obtain⟨v,ob,ho,hd⟩:=I.cell x c (sub x c e);exact⟨v,ob,old _ _ ho,hd⟩
 ·have e:p=(D,Zb1 us):=by simpa using (show p∈([]:List (Addr × Obj))++[(D,Zb1 us)] from hp)
  subst e;refine⟨ha,I.hok.fresh hD,hDC,fun z=>absurd (Yq (frC D z) hD) (Y0z _),fun v z=>nomatch z⟩
 ·show(σC o fr σ).length=N'.length;unfold σC;rw[Yy8,YC,Yb,S.len]
theorem Inv.unblock(I:Inv X pins σ H s)(hf:∀ b∈fp,FpOk X pins H b){C D:Addr}{us:List Value}{ys:List V}{σ':St}{H':Hp}{s':Shared}(hC:s.heap.objs.size<=C)(hD:s.heap.objs.size<=D)(hDC:D≠C)
  (I':Inv (cxC X N' scope C s H fp) [(D,Zb1 us)] σ' H' s') (r:Vals ys us) (hz:ys.length<=sizeLine):∃ oC m,s'.heap.get? C=some oC/\s'.heap.Ns C m/\Inv X (pins++[(C,oC)]) σ (upd H' D (.lst ys)) s':=by
 obtain⟨aD,nD,_,_,_⟩:=I'.pin (D,Zb1 us) (by simp);have aD:s'.heap.get? D=some (Zb1 us):=aD
 have nD:H' D=none:=nD;have un:Un (frs X.stack) fp H H' s.heap s'.heap:=I'.base
 have lt:∀ b u,H b=some u->b≠D:=fun b u e=>Yu (Yq (I.hok.lt e) hD);have un2:Un (frs X.stack) fp H (upd H' D (.lst ys)) s.heap s'.heap:=by
  refine⟨un.keep,un.slot,fun b ob e n hx=>?_,un.there,fun b xs e=>?_,fun b ob u e=>?_,fun b ps e=>?_⟩
  ·rw[Zc (Yu (Yq (Yp e) hD))];exact un.free b ob e n hx
  ·rw[Zc (lt b _ e)];exact un.tups b xs e
  ·rw[Zc (lt b _ e)];exact un.frzs b ob u e
  ·obtain⟨more,q⟩:=un.tbls b ps e;exact⟨more,by rw[Zc (lt b _ e)];exact q⟩
 have hok:HOk X.prog X.w (upd H' D (.lst ys)) s'.heap:=fun b u e=>by
  by_cases hb:b=D
  ·subst hb;rw[Zz1]at e;cases e;exact⟨hz,us,us.length,r,aD⟩
  ·rw[Zc hb]at e;exact(I'.hok b u e).stay (fun c v _ q=>q) (fun c q=>by rw[Zc (Zb q nD)];exact q) fun c xs q=>by rw[Zc (Zb q nD)];exact q
 have os:s'.os=s.os:=I'.os;have J:Inv X pins σ (upd H' D (.lst ys)) s':=I.call' (ch:=fp) os un2 hok I'.bare fun b hb=>by obtain⟨f0,f1,f2,f3,f4,f5⟩:=hf b hb;exact⟨f3,f1,f4,f5⟩
 obtain⟨m,hn,_⟩:=I'.loc;have hn:s'.heap.Ns C m:=hn
 obtain⟨oC,es,ep,hoC,hdC,_⟩:=id hn;refine⟨oC,m,hoC,hn,J.pins_of fun p hp=>?_⟩;rcases Yy9.mp hp with z | z
 ·exact J.pin p (Yd _ z)
 ·have e:p=(C,oC):=by simpa using z
  subst e;have nC:H' C=none:=I'.free
  refine⟨hoC,by rw[Zc (Yy03 hDC)];exact nC,Y0K (Yq I.lt hC),I.nofs hC,fun v z=>?_⟩;have z':oC.data=.cell v:=z
  rw[hdC]at z';cases z'
end
section
variable{X:Cx}{N':List Str}{o:Nat}{fr:List Nat}{scope:Scope}{elt tg iter:Expr}{ifs:List Expr}{pos:Pos}{wi:TI}{g:TG}{tt:TT}{te:TE}
theorem Zx11(hc:X.calm=true){sc0:Scope}{N0:List Str}(S:CompScope sc0 N0 N' o fr scope)(hi:PI X tg iter wi)(ho:OwnG o g)
  (hg:∀(C:Addr) (s:Shared) (H:Hp) (fp:List Addr),PG (cxC X N' scope C s H fp) tg g)
  (ht:∀(C:Addr) (s:Shared) (H:Hp) (fp:List Addr),PTs (cxC X N' scope C s H fp) ifs tt)
  (he:∀(C:Addr) (s:Shared) (H:Hp) (fp:List Addr),PE (cxC X N' scope C s H fp) elt te)
  (hs:∀ x,foldedSetIterable iter X.env x=pure x) (hsc:X.env.scope=sc0) (hN0:X.N=N0) {pins:List (Addr × Obj)} {s:Shared} {σ:St} {H:Hp} {Qv:VK} (I:Inv X pins σ H s) (h:tLc wi g tt te o fr σ H Qv)
  {use:Option (Value->Sem Unit)} {Q:Value->Shared->Prop} {E:Value->Shared->Prop}
  (hE:∀ e s',X.xe e s'->E e s')
  (fin:∀(C oC D:_) (m:Str->Option Value) (H':Hp) (ys:List V) (s':Shared),Inv X (pins++[(C,oC)]) σ (upd H' D (.lst ys)) s'->Qv (.ref D) (upd H' D (.lst ys))->s'.heap.Ns C m->H' C=none->C≠D ->
   C≠X.env.locals->X.s₀.heap.objs.size<=C->(∀ x c,X.env.cells.lookup x=some c->c≠C)->(∀ p∈X.pn++pins,p.1≠C)->compPost (model X.prog X.w) X.A E use Q (.ref D) C (.ok .next) s') :
  wpAny (model X.prog X.w) X.A (comprehension (.ListComp elt [⟨tg,iter,ifs,0⟩] scope pos) scope X.env (firstIterPos [⟨tg,iter,ifs,0⟩] pos) (newList []) false (eval iter X.env) use) Q E s:=by
 refine wpAny_comprehension_free (use:=use) rfl hs (ZZ6 (S.cells hsc I)) S.kind S.loc' (Y0O (hi pins s σ H _ I h) (fun xv s1 h1=>Y0O h1 (fun itv s2 h2=>?_) hE) hE);obtain⟨it,fp,tn,J,H2,rfl,I2,T,st2,f2,W,⟨m0,w0⟩,turn⟩:=h2;have hfl:∀ b∈fp,b<s2.heap.objs.size:=fun b hb=>by obtain⟨ob,e,_⟩:=T.obj 0 _ st2 b hb;exact Yp e
 refine Y0D (wpAny_newFunctionEnv S.nocell' (by intro y hy;simp at hy) (fun h1 hns1 hsb1=>?_) S.kind);dsimp only at hns1 hsb1 ⊢;generalize hH2:s2.heap.push { cls:=.type "list",dict:=none,data:=.seq ([]:List Value).toArray }=G at hns1 hsb1 ⊢;have hCe:G.objs.size=s2.heap.objs.size+1:=by rw[<- hH2,Y0Z]
 have hC:s2.heap.objs.size<=G.objs.size:=by rw[hCe];exact Y0P _
 have hDC:s2.heap.objs.size≠G.objs.size:=by rw[hCe];exact Yu (Y0s _)
 have old:∀ b ob,s2.heap.get? b=some ob->h1.get? b=some ob:=fun b ob e =>
  hsb1.extBut b ob (Yu (Yq (Yp e) hC)) (Yy5 _ (hH2 ▸ Yy5 _ e))
 have hacc:h1.get? s2.heap.objs.size=some (Zb1 []):=hsb1.extBut _ _ hDC (Yy5 _ (hH2 ▸ Yo _ rfl));have st1:tn 0 h1:=T.keep _ _ _ st2 fun b _ ob e=>old b ob e
 have fpC:∀ {us:List Value} {H':Hp},(∀ b∈fp,H' b=none)->∀ b∈fp,FpOk (cxC X N' scope G.objs.size s2 H2 fp) [(s2.heap.objs.size,Zb1 us)] H' b:=fun {us H'} hn b hb=>by
  obtain⟨f0,f1,f3,f4,f5,f6⟩:=f2 b hb;refine⟨hn b hb,Yu (Yq (hfl b hb) hC),fun z=>?_,.inl hb,fun x c e=>f5 x c (S.sub hsc I2 x c e),fun p hp=>?_⟩
  ·rcases Yh.mp (I2.stkSub b z) with q | q
   ·exact f1 q
   ·exact f3 q
  ·have e:p=(s2.heap.objs.size,Zb1 us):=by simpa using (show p∈([]:List (Addr × Obj))++[(s2.heap.objs.size,Zb1 us)] from hp)
   subst e;exact Y0K (hfl b hb)
 have loop:∀ s3:Shared,s3={ s2 with heap:=h1,toks:=s2.toks+([]:List (Str × Value)).length } ->
   codeAny (model X.prog X.w) X.A (.compLoop (.ListComp elt [⟨tg,iter,ifs,0⟩] scope pos) 0 (.ref it) (.ref s2.heap.objs.size) (compEnvC scope (ZV4 X.env.cells scope.names []) G.objs.size X.env))
    (compPost (model X.prog X.w) X.A E use Q (.ref s2.heap.objs.size) G.objs.size) s3:=by
  rintro s3 rfl;refine Zz44 (fun n s'=>∃ i σ' H' ys us,Inv (cxC X N' scope G.objs.size s2 H2 fp) [(s2.heap.objs.size,Zb1 us)] σ' H' s'/\σ'=σC o fr σ/\Vals ys us/\tn i s'.heap/\(∀ b∈fp,H' b=none)/\W i n ys H') ?_ m0
   ⟨0,_,H2,[],[],I2.block S hsc hN0 f2 hfl hC (Yy7 _) hDC old hns1 hacc,rfl,.nil,st1,fun b hb=>(f2 b hb).1,w0⟩
  rintro n s' ⟨i,σ',H',ys,us,I',rfl,rv,st',fr',w'⟩;rcases turn i n ys H' w' with ⟨stop,hz,q⟩ | ⟨go,hz,step⟩
  ·refine thn (T.done (cxC X N' scope G.objs.size s2 H2 fp) rfl rfl rfl hc i _ s' _ H' _ I' (fpC fr') st' stop) fun r s4 ⟨hr,I4⟩=>?_;subst hr;obtain⟨oC,m,hoC,hn,J4⟩:=I2.unblock f2 hC (Yy7 _) hDC I4 rv hz;exact fin _ oC _ m H' ys s4 J4 (q _ (I4.pin (s2.heap.objs.size,Zb1 us) (by simp)).2.1) hn I4.free (Yy03 hDC) (Y0K (Yq I2.lt hC)) (YF I2.sz hC)
    (fun x c e=>by obtain⟨v,z⟩:=I2.cell x c e;exact Yu (Yq z.lt hC)) fun p hp=>Yu (Yq (Yp (I2.pin p hp).1) hC)
  ·refine thn (T.item (cxC X N' scope G.objs.size s2 H2 fp) rfl rfl rfl hc i _ s' _ H' _ I' (fpC fr') st' go) fun r s4 hz0=>?_;obtain⟨u,hr,h4⟩:=hz0;subst hr;refine thn h4 fun _ s5 hz0=>?_;obtain⟨x,H5,I5,r5,y5,st5,fr5⟩:=hz0;have hst:=step x H5 y5
   have hst':=ho x (List.replicate o none) (fr.map fun j=>(σ[j]?).join) H5 _ (YC ..) hst;have I5':=I5.pinned (fpC (us:=us) fr5) (T.obj _ _ st5)
   refine thn (hg _ _ _ _ _ s5 _ H5 x u _ I5' r5 hst') fun _ s6 hz0=>?_;obtain⟨σ6,H6,I6,⟨ow,hol,e6⟩,q6⟩:=hz0;subst e6;refine thn (ht _ _ _ _ _ s6 _ H6 _ I6 q6) fun b s7 hz0=>?_;obtain⟨H7,I7,q7⟩:=hz0;have back:∀ {us':List Value} {σ8:St} {H8:Hp} {s8:Shared},Inv (cxC X N' scope G.objs.size s2 H2 fp) ([(s2.heap.objs.size,Zb1 us')]++ZL2 fp s5.heap) (ow++fr.map fun j=>(σ[j]?).join) H8 s8 ->
     Inv (cxC X N' scope G.objs.size s2 H2 fp) [(s2.heap.objs.size,Zb1 us')] (σC o fr σ) H8 s8/\tn (i+1) s8.heap/\∀ b∈fp,H8 b=none:=fun {us' σ8 H8 s8} I8=>by
    refine⟨I8.unpinned.weak ?_ fun j v e=>?_,T.keep _ _ _ st5 fun b hb ob e=>(I8.pin (b,ob) (Yd _ (Yd _ (ZC1 hb e)))).1,fun b hb=>?_⟩
    ·unfold σC;rw[Yy8,Yy8,YC,hol]
    ·unfold σC at e;by_cases hj:j<o
     ·rw[Yx (by rw[YC];exact hj),Y0X,if_pos hj]at e;cases e
     ·rw[Yy (by rw[YC];exact Nat.not_lt.mp hj),YC]at e;rw[Yy (by rw[hol];exact Nat.not_lt.mp hj),hol];exact e
    ·obtain⟨ob,e,_⟩:=T.obj _ _ st5 b hb;exact(I8.pin (b,ob) (Yd _ (Yd _ (ZC1 hb e)))).2.1
   cases b with
   | false =>
    rw[if_neg Ys]at q7 ⊢;obtain⟨m',hm,w7⟩:=q7;obtain⟨I8,st8,fr8⟩:=back (us':=us) (σ8:=[]) I7;exact⟨m',hm,i+1,_,H7,ys,us,I8,rfl,rv,st8,fr8,w7⟩
   | true =>
    rw[if_pos rfl]at q7 ⊢;refine thn (he _ _ _ _ _ s7 _ H7 _ I7 q7) fun y s8 hz0=>?_;obtain⟨yv,H8,I8,r8,m',hm,w8⟩:=hz0;obtain⟨aD,nD,_,_,_⟩:=I8.pin (s2.heap.objs.size,Zb1 us) (by simp);have aD:s8.heap.get? s2.heap.objs.size=some (Zb1 us):=aD
    have nD:H8 s2.heap.objs.size=none:=nD;have hul:us.length<=sizeLine:=by rw[<- rv.length];exact Y1A hz
    refine append_at (hsz:=by show us.toArray.size<=sizeLine;rw[Ya];exact hul) aD fun h9 hs9 hD9=>?_;have hD9':h9.get? s2.heap.objs.size=some (Zb1 (us++[y])):=by
     rw[hD9];show some ({ cls:=.type "list",data:=.seq (us.toArray.push y) (us.length+1) }:Obj)=some { cls:=.type "list",data:=.seq (us++[y]).toArray (us++[y]).length }
     rw[Yy8,YM,List.push_toArray]
    have I9:Inv (cxC X N' scope G.objs.size s2 H2 fp) (ZL2 fp s5.heap) (ow++fr.map fun j=>(σ[j]?).join) H8 { s8 with heap:=h9 } :=
     (I8.pins_of (pins':=ZL2 fp s5.heap) fun p hp=>I8.pin p (Yd _ (Yd _ hp))).turned (t':=s8.toks) (it:=s2.heap.objs.size) (fun b ob hb e=>hs9.extBut b ob hb e) nD hDC (.inr (Yy7 _))
      (fun x c e=>by obtain⟨v,z⟩:=I2.cell x c (S.sub hsc I2 x c e);exact Yu z.lt)
      fun p hp=>by obtain⟨hb,_⟩:=Zm4 (show p∈ZL2 fp s5.heap from by simpa [cxC] using hp);exact Yu (hfl p.1 hb)
    have I9':Inv (cxC X N' scope G.objs.size s2 H2 fp) ([(s2.heap.objs.size,Zb1 (us++[y]))]++ZL2 fp s5.heap) (ow++fr.map fun j=>(σ[j]?).join) H8 { s8 with heap:=h9 } :=
     I9.pins_of fun p hp=>by
      rcases Yy9.mp hp with z | z
      ·have e:p=(s2.heap.objs.size,Zb1 (us++[y])):=by simpa using z
       subst e;refine⟨hD9',nD,hDC,fun z=>?_,fun v z=>nomatch z⟩;obtain⟨_,ob,hob,_⟩:=I2.stack.mem z;exact Y0z _ (Yp hob)
      ·exact I9.pin p (Yd _ z)
    obtain⟨I10,st10,fr10⟩:=back (us':=us++[y]) (σ8:=[]) I9';exact⟨m',hm,i+1,_,H8,ys++[yv],us++[y],I10,rfl,Vals.append rv (.cons r8 .nil),st10,fr10,w8⟩
 exact codeAny_compStart_list (loop _ rfl) (T.self _ 0 _ _ _ st1 (loop _ rfl))
theorem Zc5(hc:X.calm=true){sc0:Scope}{N0:List Str}(S:CompScope sc0 N0 N' o fr scope)(hi:PI X tg iter wi)(ho:OwnG o g)
  (hg:∀(C:Addr) (s:Shared) (H:Hp) (fp:List Addr),PG (cxC X N' scope C s H fp) tg g)
  (ht:∀(C:Addr) (s:Shared) (H:Hp) (fp:List Addr),PTs (cxC X N' scope C s H fp) ifs tt)
  (he:∀(C:Addr) (s:Shared) (H:Hp) (fp:List Addr),PE (cxC X N' scope C s H fp) elt te)
  (hs:∀ x,foldedSetIterable iter X.env x=pure x:=by intro _;rfl) (hsc:X.env.scope=sc0:=by rfl) (hN0:X.N=N0:=by rfl):PE X (.ListComp elt [⟨tg,iter,ifs,0⟩] scope pos) (tLc wi g tt te o fr):=by intro pins s σ H Q I h;rw[eval_ListComp];refine Zx11 hc S hi ho hg ht he hs hsc hN0 I h (use:=none) (fun _ _ z=>z) fun C oC D m H' ys s' J q hn nC hCD hCL hCs hCc hCp=>?_;refine⟨m,hn,fun h' hs'=>⟨.ref D,upd H' D (.lst ys),?_,rfl,q⟩⟩;refine J.unpinned.turned (t':=s'.toks) (it:=C) (fun b ob hb e=>hs'.extBut b ob hb e) (by rw[Zc hCD];exact nC) hCL (.inr hCs) hCc hCp
theorem Zn7{i:Nat}{x:Str}{px:Pos}{spos:Pos}(hc:X.calm=true)(hN:X.N.Nodup)(hx:X.N[i]?=some x)(hl:X.env.kindOf x=some .local){sc0:Scope}{N0:List Str}(S:CompScope sc0 N0 N' o fr scope)(hi:PI X tg iter wi)(ho:OwnG o g)
  (hg:∀(C:Addr) (s:Shared) (H:Hp) (fp:List Addr),PG (cxC X N' scope C s H fp) tg g)
  (ht:∀(C:Addr) (s:Shared) (H:Hp) (fp:List Addr),PTs (cxC X N' scope C s H fp) ifs tt)
  (he:∀(C:Addr) (s:Shared) (H:Hp) (fp:List Addr),PE (cxC X N' scope C s H fp) elt te)
  (hs:∀ x,foldedSetIterable iter X.env x=pure x:=by intro _;rfl) (hsc:X.env.scope=sc0:=by rfl) (hN0:X.N=N0:=by rfl)
  (hsw:swapsWith (.ListComp elt [⟨tg,iter,ifs,0⟩] scope pos) (some (.Name x px)) spos.line X.env=pure true:=by rfl) :
  PS X (.Assign [.Name x px] (.ListComp elt [⟨tg,iter,ifs,0⟩] scope pos) spos) (tAsg (tLc wi g tt te o fr) (ZA8 i)):=by
 intro pins s σ H D I h;rw[exec_Assign_Name_used _ _ _ _ hsw];refine Yy4 (wpAny_standAt (Yy4 ?_));show wpAny _ X.A (do let _ <- comprehension (.ListComp elt [⟨tg,iter,ifs,0⟩] scope pos) scope X.env (firstIterPos [⟨tg,iter,ifs,0⟩] pos) (newList []) false (eval iter X.env) (some (assign (.Name x px) X.env))) _ _ s
 refine Yy4 (Y0O (Zx11 (Q:=fun _ s'=>SP X pins D .next s') hc S hi ho hg ht he hs hsc hN0 I h (use:=some (assign (.Name x px) X.env)) (fun _ _ z=>z) fun C oC Dd m H' ys s' J q hn nC hCD hCL hCs hCc hCp=>?_) (fun _ s' hq=>Yn (Yn hq)) fun _ _ e=>e);show wpAny _ X.A (assign (.Name x px) X.env (.ref Dd)) _ _ _
 refine wpAny_assign_Name (ZF2 J hN hx (.inl hl) (v:=.ref Dd) rfl (fun s2 I2=>?_) (.inr hl));have g1:=(I2.pin (C,oC) (by simp)).1
 have g1:s2.heap.get? C=some oC:=g1;have n2:s2.heap.Ns C m:=by
  obtain⟨oc,es,ep,e,r⟩:=hn;have e0:=(J.pin (C,oC) (by simp)).1
  have e0:s'.heap.get? C=some oC:=e0;rw[e]at e0;cases e0;exact⟨_,es,ep,g1,r⟩
 refine⟨m,n2,fun h' hs'=>⟨_,upd H' Dd (.lst ys),?_,q⟩⟩;exact I2.unpinned.turned (t':=s2.toks) (it:=C) (fun b ob hb e=>hs'.extBut b ob hb e) (by rw[Zc hCD];exact nC) hCL (.inr hCs) hCc hCp
end
section
variable{X:Cx}
theorem ZP8{x y:V}{us:List Value}(r:Vals [x,y] us):∃ u v,us=[u,v]/\RelV x u/\RelV y v:=by
 cases r with
 | cons a r =>
  cases r with
  | cons b r=>cases r;exact⟨_,_,rfl,a,b⟩
theorem ZI:∀ {ns:List Int} {us:List Value},Vals (ns.map V.int) us->IntsAre us ns
 | [],_,.nil=>.nil
 | n :: ns,_,.cons r t=>by obtain⟨tk,rfl⟩:=r;exact .cons n tk (ZI t)
theorem ZX4:Zb3 X (.type "range") (fun xs H Q=>∃ j:Int,xs=[.int j]/\∀ p,H p=none->Q (.ref p) (upd H p (.rng 0 j))):=by intro pins s σ H xs us Q I r h;obtain⟨j,rfl,q⟩:=h;obtain⟨u,rfl,t,rfl⟩:=Zz75 r;refine call_range_1 ?_;exact⟨.ref s.heap.objs.size,_,I.laid (o:=.rng 0 j) (fun b u e=>Yy5 _ e) (Yy7 _) ⟨_,_,_,Yo _ rfl⟩,rfl,q _ (I.hok.fresh (Yy7 _))⟩
def rngI(lo hi:Int):List Int:=(List.range (hi - lo).toNat).map fun(i:Nat)=>lo+(i:Int)
theorem Zu2(lo hi:Int):(rngI lo hi).length=(hi - lo).toNat:=by unfold rngI;rw[Yb,YX]
theorem Zu5{lo:Int}{n:Nat}:∀ {us:List Value},us.length=n->(∀(j:Nat) (v:Value),us[j]?=some v->∃ t,v=Value.int (lo+(j:Int)) t)->Vals (((List.range n).map fun(i:Nat)=>lo+(i:Int)).map V.int) us:=by
 induction n generalizing lo with
 | zero =>
  intro us h _;rw[YK.mp h];exact .nil
 | succ n ih =>
  intro us h hv;cases us with
  | nil=>cases h
  | cons u us =>
   rw[List.range_succ_eq_map,YI,YI];refine .cons ?_ ?_
   ·obtain⟨t,e⟩:=hv 0 u rfl;exact⟨t,e⟩
   ·have q:=ih (lo:=lo+1) (us:=us) (Y1d h) fun j v e=>by obtain⟨t,e'⟩:=hv (j+1) v (by simpa using e);refine⟨t,?_⟩;rw[e'];congr 1;omega
    have e:(List.range n).map (fun(i:Nat)=>lo+1+(i:Int))=((List.range n).map Nat.succ).map (fun(i:Nat)=>lo+(i:Int)):=by
     rw[Y1B];refine YL fun i _=>?_;show lo+1+(i:Int)=lo+((i+1:Nat):Int)
     omega
    rw[e]at q;exact q
theorem ZD3 (hc:X.calm=true):Zb3 X (.type "list") (fun xs H Q=>∃ p lo hi,xs=[.ref p]/\H p=some (.rng lo hi)/\(-(2 ^ 62)<=lo/\lo<2 ^ 62/\-(2 ^ 62)<=hi/\hi<2 ^ 62)/\(hi - lo).toNat<=16777216 /\
  ∀ l,H l=none->Q (.ref l) (upd H l (.lst ((rngI lo hi).map V.int)))):=by
 intro pins s σ H xs us Q I r h;obtain⟨p,lo,hi,rfl,hp,⟨b1,b2,b3,b4⟩,hz,q⟩:=h;obtain⟨u,rfl,ru⟩:=Zz75 r;obtain rfl:u=Value.ref p:=ru;obtain⟨t,u,v,e⟩:=(show ObjOk X.prog X.w H s.heap p (.rng lo hi) from I.hok p _ hp);have hn:Builtin.Range.rangeSize lo hi 1=(((hi - lo).toNat:Nat):Int):=by rw[rangeSize_one];split <;> omega
 refine call_list_range (I.ok.hd hc) (t:=t) (u:=u) (v:=v) e (small_one b1 b2 b3 b4) hn hz fun h' tk acc c' hk hS ha=>?_;have hl:acc.toList.length=(hi - lo).toNat:=by rw[YN];exact ha.1
 have rv:Vals ((rngI lo hi).map V.int) acc.toList:=Zu5 (lo:=lo) hl fun j w ew=>by obtain⟨t,e⟩:=ha.2 j w (by simpa using ew);exact⟨t,by rw[e,Y1n]⟩
 refine⟨.ref s.heap.objs.size,_,I.laid (o:=.lst ((rngI lo hi).map V.int)) hk (Yy7 _) ⟨?_,acc.toList,c',rv,?_⟩,rfl,q _ (I.hok.fresh (Yy7 _))⟩
 ·rw[Yb,Zu2]
  have:sizeLine=16777216:=Y0M
  omega
 ·rw[hS]
theorem ZC3 (hc:X.calm=true):Zb3 X (.builtin "sum") (fun xs H Q=>∃(p:Addr) (ns:List Int),xs=[.ref p]/\SqL X.K H p (ns.map V.int)/\Q (.int ns.sum) H):=by
 intro pins s σ H xs us Q I r h;obtain⟨p,ns,rfl,hq,q⟩:=h;obtain⟨u,rfl,ru⟩:=Zz75 r;obtain rfl:u=Value.ref p:=ru;obtain⟨its,rv,pl,hz⟩:=I.list hq;have hi:=ZI rv
 have hall:=hi.allInts;obtain⟨xs,ex⟩:=hall.items;have hl:=pl.isList
 rw[ex]at hl;refine sum_intListG (I.ok.hd hc) hl fun h' tk t' hk=>?_;have e1:preSum (numAt xs) xs.size=ns.sum:=by have e2:=hi.numsOf;rw[show its=its.toArray.toList from rfl,ex,nums_intItems]at e2;rw[preSum_eq,Y0g (by simp),<- e2]
 exact⟨.int ns.sum,H,I.kept hk,⟨t',by rw[e1]⟩,q⟩
def seen(ns:List Int):List Int:=firstMet (fun i=>ns.getD i 0) ns.length
def Ite(K:PySem.W.Frag)(a:Addr):It :=
 ⟨fun i H=>∃ xs x,SqL K H a xs/\xs[i]?=some x,fun i H v H'=>∃ T x,H T=none/\v=.ref T/\H'=upd H T (.tup [.int i,x])/\∀ xs,SqL K H a xs->xs[i]?=some x,fun i H=>∃ xs,SqL K H a xs/\xs.length<=i⟩
def Zs13(K:PySem.W.Frag)(ta:TA):TI:=fun σ H R=>ta σ H fun vs H1=>∃ a,vs=[.ref a]/\(∃ xs,SqL K H1 a xs)/\R (Ite K a) H1
theorem Zb7{P:Program}{w:World}{K:PySem.W.Frag}{elts:List Expr}{x1:Nat}{pos:Pos}(a e it:Addr)(hne:e≠it):Turn P w K (.Tuple elts x1 pos) (Ite K a) [e,it] e (fun i h=>(∃ old,IsEnum h e it i old)/\h.IsListIter it a i) where
 mem:=by simp
 obj:=fun i h st b hb=>by
  obtain⟨⟨old,he⟩,o,eo,c,d⟩:=st;rcases Yh.mp hb with z | hb
  ·subst z;exact⟨_,he,fun v z=>by have z':Data.fields _=Data.cell v:=z;cases z'⟩
  ·have z:b=it:=by simpa using hb
   subst z;exact⟨o,eo,fun v z=>by rw[d]at z;cases z⟩
 keep:=fun i h h' st k=>by obtain⟨⟨old,he⟩,hit⟩:=st;exact⟨⟨old,k e (by simp) _ he⟩,hit.at fun o x=>k it (by simp) o x⟩
 item:=by
  intro X hP hw hK hc i pins s σ H E I hf st hg;subst hP hw hK;obtain⟨xs,x,hq,hx⟩:=hg;obtain⟨⟨old,he⟩,hit⟩:=st;obtain⟨its,rv,p,hz⟩:=I.list hq;obtain⟨u,hu,ru⟩:=rv.get hx;obtain⟨f0,f1,f2,f3,f4,f5⟩:=hf e (by simp);obtain⟨g0,g1,g2,g3,g4,g5⟩:=hf it (by simp);have hT0:H s.heap.objs.size=none:=I.hok.fresh (Yy7 _)
  refine wpAny_pyNext_enum_item he hit p.isList (x:=u) (by simpa using hu) hne fun h' ho hit' hT hsz hk=>?_;have ltT:∀ b ob,s.heap.get? b=some ob->b≠s.heap.objs.size:=fun b ob z=>Yu (Yp z)
  have ltH:∀ b ob,H b=some ob->b≠s.heap.objs.size:=fun b ob z=>Yu (I.hok.lt z);have nof:∀ b ob,H b=some ob->b≠e/\b≠it:=fun b ob z=>⟨fun q=>(by rw[q,f0]at z;cases z),fun q=>(by rw[q,g0]at z;cases z)⟩
  have I1:Inv X pins σ (upd H s.heap.objs.size (.tup [.int i,x])) { s with heap:=h',toks:=s.toks+1 }:=by
   refine I.step (g':=s.gens) (d':=s.drawn) (ch:=[e,it]) (fun b hb=>?_) (fun b o _ _ hcx z _=>hk b o (fun q=>hcx (by simp[q])) (fun q=>hcx (by simp[q])) z) (fun b o _ _ hcx z _=>⟨o.slots,hk b o (fun q=>hcx (by simp[q])) (fun q=>hcx (by simp[q])) z⟩)
    (fun b o _ z n=>by rw[Zc (ltT b o z)];exact n) (fun b o hcx z=>⟨o,hk b o (fun q=>hcx (by simp[q])) (fun q=>hcx (by simp[q])) z⟩) (fun b ys z=>by rw[Zc (ltH b _ z)];exact z) (fun b o v z=>by rw[Zc (ltH b _ z)];exact z)
    (fun b ps z=>⟨#[],by rw[Zc (ltH b _ z),z];simp⟩) (fun m hm=>?_) (fun b v z=>?_) I.bare
   ·rcases Yh.mp hb with q | hb
    ·rw[q];exact⟨f3,f1,f4,f5⟩
    ·have q:b=it:=by simpa using hb
     rw[q];exact⟨g3,g1,g4,g5⟩
   ·obtain⟨o,es,ep,ho',r⟩:=hm;exact⟨o,es,ep,hk _ o (Yy03 f1) (Yy03 g1) ho',r⟩
   ·by_cases hb:b=s.heap.objs.size
    ·subst hb;rw[Zz1]at z;cases z;exact⟨by show 2<=sizeLine;decide,[.int i s.toks,u],.cons ⟨_,rfl⟩ (.cons ru .nil),⟨_,hT,rfl,_,rfl⟩⟩
    ·rw[Zc hb]at z;refine(I.hok b v z).stay (fun c w' hc' q=>?_) (fun c q=>by rw[Zc (ltH c _ q)];exact q) fun c ys q=>by rw[Zc (ltH c _ q)];exact q
     rcases hc' with rfl | hc'
     ·exact hk c w' (nof c _ z).1 (nof c _ z).2 q
     ·exact hk c w' (nof c _ hc').1 (nof c _ hc').2 q
  refine⟨_,rfl,wpAny_letOwnedTupleGo_enum ho fun h2 he2 hs2=>?_⟩;have fT:e≠s.heap.objs.size:=ltT e _ he
  have I2:Inv X pins σ (upd H s.heap.objs.size (.tup [.int i,x])) { s with heap:=h2,toks:=s.toks+1 }:=Inv.turned (s:={ s with heap:=h',toks:=s.toks+1 }) (h':=h2) (t':=s.toks+1) (it:=e) I1 (fun b o hb z=>hs2.extBut b o hb z) (by rw[Zc fT];exact f0) f1 f3 f4 f5;refine⟨.ref s.heap.objs.size,_,I2,rfl,⟨_,x,hT0,rfl,rfl,fun ys hy=>by rw[I.list_inj hy hq];exact hx⟩,⟨⟨u,by simpa using he2⟩,hit'.at fun o z=>hs2.extBut it o (Yy03 hne) z⟩,fun b hb=>?_⟩;rcases Yh.mp hb with q | hb
  ·rw[q,Zc fT];exact f0
  ·have q:b=it:=by simpa using hb
   obtain⟨o,eo,_⟩:=hit;rw[q,Zc (ltT it o eo)];exact g0
 done:=by
  intro X hP hw hK hc i pins s σ H E I hf st hg;subst hP hw hK;obtain⟨xs,hq,hx⟩:=hg;obtain⟨⟨old,he⟩,hit⟩:=st;obtain⟨its,rv,p,hz⟩:=I.list hq;obtain⟨g0,g1,g2,g3,g4,g5⟩:=hf it (by simp);have hl:=rv.length
  exact wpAny_pyNext_enum_end (I.ok.hd hc) he hit p.isList (by simp;omega) fun h' eb=>⟨rfl,I.turned (t':=s.toks) (it:=it) (fun b o hb z=>eb b o hb z) g0 g1 g3 g4 g5⟩
 self:=fun _ _ _ _ _ st h=>let ⟨⟨_,he⟩,_⟩:=st;wpAny_pyIter_enum he h
theorem Zz411 {elts:List Expr} {x1:Nat} {tpos:Pos} {a:Expr} {ta:TA} {p pos:Pos} (hg:Gl X "enumerate") (hm:X.mg "enumerate"=none) (ha:PA X [a] ta) (hs:starEach [a] X.env=[(false,eval a X.env)]:=by rfl) :
  PI X (.Tuple elts x1 tpos) (.Call (.Name "enumerate" p) [a] [] pos) (Zs13 X.K ta):=by
 intro pins s σ H R I h;refine Call_ (ZR2 I hg hm Boot.«enumerate» (Y0n (thn (ha pos pins s σ H _ I h) fun us s1 hz0=>?_) hs rfl));obtain⟨vs,H1,I1,r1,q1⟩:=hz0;obtain⟨b,e,⟨xs,hq⟩,q⟩:=q1;subst e;obtain⟨u,rfl,ru⟩:=Zz75 r1;obtain rfl:u=Value.ref b:=ru;obtain⟨its,rv,pl,hz⟩:=I1.list hq;refine call_enumerate_list pl.isList fun h' he hit hsz hk=>?_;have I2:Inv X pins σ H1 { s1 with heap:=h' }:=I1.kept (t':=s1.toks) hk
 refine wpAny_pyIter_enum he ?_;have nn:∀ k,s1.heap.objs.size<=k->H1 k=none:=fun k hk=>I1.hok.fresh hk
 refine⟨s1.heap.objs.size+1,[s1.heap.objs.size+1,s1.heap.objs.size],_,_,H1,rfl,I2,Zb7 b _ _ (Nat.succ_ne_self _),⟨⟨_,he⟩,hit⟩,fun c hc=>?_,q⟩;have hle:s1.heap.objs.size<=c:=by
  rcases Yh.mp hc with q | hc
  ·rw[q];exact Y0P _
  ·have q:c=s1.heap.objs.size:=by simpa using hc
   rw[q];exact Yy7 _
 exact I1.fpOk hle (nn c hle)
theorem ZA11{k:Key}{y:V}{us:List Value}(r:Vals [kV k,y] us):∃ u v,us=[u,v]/\RelV (kV k) u/\RelV y v:=ZP8 r
def ZX10:V->List V->Hp->VK->Prop:=fun x vs H Q=>∃ d kvs k y,x=.ref d/\vs=[kV k,y]/\H d=some (.dK kvs)/\kvs.length<sizeLine/\(∀ v,valV kvs k=some v->Q v H)/\(valV kvs k=none->Q y (upd H d (.dK (kvs++[(k,y)]))))
theorem Zs3:MtM X "dict.setdefault" ZX10:=by
 intro pins s σ H x vs v us Q I rx rv h;obtain⟨d,kvs,k,y,rfl,rfl,hH,hz,h1,h2⟩:=h;cases rx;obtain⟨uk,uy,rfl,rk,ry⟩:=ZA11 rv;obtain⟨z,hd,ws,rel,dd⟩:=Za13 I.hok hH;refine call_meetsIn Y2G dd.typeIs PySem.F.entry_dict_setdefault (PySem.F.args_dict_setdefault_3 _ _ _) (kt_meets_setdefault (Zz91 X.prog X.w) d (ZR13 rk) hd uy)
  ⟨ws,dd,by rw[<- rel.length];exact z,fun v' hv'=>?_,fun hn h' dd' hs=>?_⟩
 ·cases e:valV kvs k with
  | none =>
   have q:=rel.val k;rw[e,hv']at q;exact False.elim q
  | some w' =>
   have q:=rel.val k;rw[e,hv']at q;exact⟨w',H,I.tok _,q,h1 w' e⟩
 ·have e:valV kvs k=none:=by
   cases e:valV kvs k with
   | none=>rfl
   | some w' =>
    have q:=rel.val k;rw[e,hn]at q;exact False.elim q
  have he:∃ q,h'.get? d=some q:=let ⟨q,_,_,hq,_⟩:=dd';⟨q,hq⟩
  refine⟨y,_,Zz012 (ob:=.dK (putK kvs k y)) I (by rw[hH];exact True.intro) hs he (Zb13 ?_ hd (rel.put k ry) dd'),ry,?_⟩
  ·have:=Zg5 kvs k y;omega
  ·rw[Zg9 y e];exact h2 e
def Zq10(p d:Addr):HO:=.ext fun h=>h.IsValuesView p d
def ZW10:V->List V->Hp->VK->Prop:=fun x vs H Q=>∃ d kvs,x=.ref d/\vs=[]/\H d=some (.dK kvs)/\∀ p,H p=none->Q (.ref p) (upd H p (Zq10 p d))
theorem Zv7:MtM X "dict.values" ZW10:=by
 intro pins s σ H x vs v us Q I rx rv h;obtain⟨d,kvs,rfl,rfl,hH,q⟩:=h;cases rx;cases rv;obtain⟨z,hd,ws,rel,dd⟩:=Za13 I.hok hH;refine call_meetsIn Y2Z dd.typeIs PySem.F.entry_dict_values (PySem.F.args_dict_values_1 _) (meets_dict_values (Zz91 X.prog X.w) d hd) ⟨⟨ws,dd⟩,?_⟩;refine⟨.ref s.heap.objs.size,_,I.laid (o:=Zq10 s.heap.objs.size d) (fun b u e=>Yy5 _ e) (Yy7 _) ?_,rfl,q _ (I.hok.fresh (Yy7 _))⟩;have e:=Yo s.heap (o:={ cls:=.type "dict_values",data:=.fields #[.ref d] }) rfl
 exact⟨⟨_,e,rfl,rfl⟩,⟨_,e⟩,fun h1 h2 ⟨o,ho,r⟩ k=>⟨o,k o ho,r⟩⟩
theorem ZS7{P:Program}{w:World}{h:Heap}{d:Addr}{ws:List (Key × Value)}(dd:h.DictOf (Zz91 P w) d ws):∃ ep,h.DictAt (Zz91 P w) d ws ep:=by obtain⟨o,es,ep,r⟩:=dd;exact⟨ep,o,es,r⟩
theorem Zt5{κ:Type}:∀ {kvs:List (κ × V)} {ws:List (κ × Value)},KV kvs ws->Vals (kvs.map (·.2)) (ws.map (·.2))
 | _,_,.nil=>.nil
 | _,_,.cons r t=>.cons r.2 (Zt5 t)
theorem Zz73 (hc:X.calm=true):Zb3 X (.type "list") (fun xs H Q=>∃ p d kvs,xs=[.ref p]/\H p=some (Zq10 p d)/\H d=some (.dK kvs)/\∀ l,H l=none->Q (.ref l) (upd H l (.lst (kvs.map (·.2))))):=by
 intro pins s σ H xs us Q I r h;obtain⟨p,d,kvs,rfl,hp,hd,q⟩:=h;obtain⟨u,rfl,ru⟩:=Zz75 r;obtain rfl:u=Value.ref p:=ru;obtain⟨hv,_,_⟩:=(show ObjOk X.prog X.w H s.heap p (Zq10 p d) from I.hok p _ hp);obtain⟨z,hds,ws,rel,dd⟩:=Za13 I.hok hd;obtain⟨ep,da⟩:=ZS7 dd;have hl:ws.length=kvs.length:=rel.length.symm
 refine PySem.W.kdl_call (PySem.W.kdl_values (knd:=Zz91 X.prog X.w) (kvs:=ws) (ep:=ep) (r:=p) (d:=d)) (I.ok.hd hc) ⟨hv,da⟩ (by omega) fun h' tk acc c' hk hS ha=>?_;have ea:acc.toList=ws.map (·.2):=by
  refine Y0H fun i=>?_;cases e:acc.toList[i]? with
  | none =>
   have:ws.length<=i:=by
    have:=Y2T.mp e
    rw[YN,ha.1]at this;exact this
   rw[Y2T.mpr (by rw[Yb];exact this)]
  | some v =>
   obtain⟨k,ek⟩:=ha.2 i v (by simpa using e);rw[Ym,ek];rfl
 refine⟨.ref s.heap.objs.size,_,I.laid (o:=.lst (kvs.map (·.2))) hk (Yy7 _) ⟨by rw[Yb];exact z,acc.toList,c',?_,by rw[hS]⟩,rfl,q _ (I.hok.fresh (Yy7 _))⟩;rw[ea];exact Zt5 rel
end
inductive EqD (K:PySem.W.Frag) (H:Hp):Nat->V->V->Bool->Prop
 | flat {n:Nat} {x y:V} (fx:ZG3 x=true) (fy:ZG3 y=true):EqD K H n x y (eqV x y)
 | lsts {n:Nat} {a b:Addr} {xs ys:List V} {e:Nat->Bool} (ha:SqL K H a xs) (hb:SqL K H b ys) (hl:xs.length=ys.length) (h:∀ i x y,xs[i]?=some x->ys[i]?=some y->EqD K H n x y (e i)):EqD K H (n+1) (.ref a) (.ref b) ((List.range xs.length).all e)
 | lens {n:Nat} {a b:Addr} {xs ys:List V} (ha:SqL K H a xs) (hb:SqL K H b ys) (hl:xs.length≠ys.length):EqD K H (n+1) (.ref a) (.ref b) false
 | tups {n:Nat} {a b:Addr} {xs ys:List V} {e:Nat->Bool} (ha:SqT K H a xs) (hb:SqT K H b ys) (h:∀ i x y,xs[i]?=some x->ys[i]?=some y->EqD K H n x y (e i)) :
   EqD K H (n+1) (.ref a) (.ref b) ((List.range (min xs.length ys.length)).all e && xs.length == ys.length)
theorem Zz110{x:V}(h:ZG3 x=true):eqV x x=true:=by cases x <;> first | rfl | (simp[eqV];done) | exact absurd (show false=true from h) Ys
section
variable{X:Cx}{pins:List (Addr × Obj)}{σ:St}{H:Hp}{s:Shared}
theorem Vals.at{xs:List V}{us:List Value}{j:Nat}(r:Vals xs us)(h:j<us.length):∃ x,xs[j]?=some x/\RelV x us[j]:=by
 have hl:=r.length;have hx:xs[j]?=some (xs[j]'(by omega)):=Yy0 (by omega)
 obtain⟨u,e,ru⟩:=r.get hx;rw[Yy0 h]at e;cases e;exact⟨_,hx,ru⟩
theorem EqD.self{n:Nat}{x y:V}{b:Bool}(q:EqD X.K H n x y b)(I:Inv X pins σ H s):x=y->b=true:=by
 induction q with
 | flat fx fy=>intro e;subst e;exact Zz110 fx
 | @lsts n a b xs ys e ha hb hl h ih =>
  intro z;cases z;have e1:xs=ys:=I.list_inj ha hb
  subst e1;rw[Y0l];intro i hi;have hx:xs[i]?=some (xs[i]'(YD.mp hi)):=Yy0 _
  exact ih i _ _ hx hx rfl
 | @lens n a b xs ys ha hb hl =>
  intro z;cases z;exact absurd (Yy04 List.length (I.list_inj ha hb)) hl
 | @tups n a b xs ys e ha hb h ih =>
  intro z;cases z;have e1:xs=ys:=I.tuple_inj ha hb
  subst e1;rw[Nat.min_self,Y0t,Y0l];refine⟨fun i hi=>?_,by simp⟩;have hx:xs[i]?=some (xs[i]'(YD.mp hi)):=Yy0 _
  exact ih i _ _ hx hx rfl
theorem EqD.at{n:Nat}{x y:V}{b:Bool}(q:EqD X.K H n x y b)(I:Inv X pins σ H s):∀ {A:Around} {u v:Value},A.units+n<cLine->RelV x u->RelV y v->SeqAt.EqAt A s u v b:=by
 induction q with
 | flat fx fy=>intro A u v _ ru rv;exact ZT11 ru rv fx fy
 | @lsts n a b xs ys e ha hb hl h ih =>
  intro A u v hu ru rv;obtain rfl:u=Value.ref a:=ru;obtain rfl:v=Value.ref b:=rv;by_cases hab:a=b
  ·have z:=EqD.self (EqD.lsts ha hb hl h) I (Yy04 V.ref hab);rw[z,hab];exact Y2r _
  obtain⟨us,rx,px,_⟩:=I.list ha;obtain⟨vs,ry,py,_⟩:=I.list hb;have l1:=rx.length
  have l2:=ry.length;have z:=SeqAt.RcAt.lists (A:=A) (s:=s) (e:=e) px.isList py.isList (by rw[Ya,Ya];omega) (by omega) fun j h1 h2=>by obtain⟨x,ex,rx'⟩:=rx.at (j:=j) (by simpa using h1);obtain⟨y,ey,ry'⟩:=ry.at (j:=j) (by simpa using h2);exact ih j x y ex ey (A:=A.in1) (by show A.units+1+n<cLine;omega) (by simpa using rx') (by simpa using ry')
  rw[Ya,<- l1]at z;exact Y1Y hab z
 | @lens n a b xs ys ha hb hl =>
  intro A u v hu ru rv;obtain rfl:u=Value.ref a:=ru;obtain rfl:v=Value.ref b:=rv;obtain⟨us,rx,px,_⟩:=I.list ha;obtain⟨vs,ry,py,_⟩:=I.list hb;have l1:=rx.length
  have l2:=ry.length;have hab:a≠b:=fun z=>by subst z;exact hl (Yy04 List.length (I.list_inj ha hb))
  exact Y1Y hab (SeqAt.RcAt.lists_lengths px.isList py.isList (by rw[Ya,Ya];simp;omega) (by omega))
 | @tups n a b xs ys e ha hb h ih =>
  intro A u v hu ru rv;obtain rfl:u=Value.ref a:=ru;obtain rfl:v=Value.ref b:=rv;by_cases hab:a=b
  ·have z:=EqD.self (EqD.tups ha hb h) I (Yy04 V.ref hab);rw[z,hab];exact Y2r _
  obtain⟨us,rx,px,_⟩:=I.tuple ha;obtain⟨vs,ry,py,_⟩:=I.tuple hb;have l1:=rx.length
  have l2:=ry.length;have z:=SeqAt.RcAt.tuples (A:=A) (s:=s) (e:=e) (show s.heap.IsTuple a us.toArray from px) (show s.heap.IsTuple b vs.toArray from py) (by omega) fun j h1 h2=>by obtain⟨x,ex,rx'⟩:=rx.at (j:=j) (by simpa using h1);obtain⟨y,ey,ry'⟩:=ry.at (j:=j) (by simpa using h2);exact ih j x y ex ey (A:=A.in1) (by show A.units+1+n<cLine;omega) (by simpa using rx') (by simpa using ry')
  rw[Ya,Ya,<- l1,<- l2]at z;exact Y1Y hab z
end
section
variable{X:Cx}
def rEqD(K:PySem.W.Frag)(neg:Bool):R2:=fun x y H Q=>∃ n b p q,x=.ref p/\y=.ref q/\n<=6/\EqD K H n x y b/\Q (.bl (if neg then !b else b)) H
theorem ZT12(hu:X.A.units+8<cLine):OpR X (compareOp .Eq) (rEqD X.K false):=by
 intro pins s σ H x y u v Q I ru rv h;obtain⟨n,b,p,q,rfl,rfl,hn,d,hq⟩:=h;obtain rfl:u=Value.ref p:=ru;obtain rfl:v=Value.ref q:=rv;have fin:EP X pins σ Q (.bool b) s:=⟨.bl b,H,I,rfl,hq⟩
 cases d with
 | flat fx fy=>exact absurd (show false=true from fx) Ys
 | @lsts n _ _ xs ys e ha hb hl h =>
  obtain⟨us,rx,px,_⟩:=I.list ha;obtain⟨vs,ry,py,_⟩:=I.list hb;have l1:=rx.length
  have l2:=ry.length;refine SeqAt.eq_listAt (e:=e) px.isList py.isList (by rw[Ya,Ya];omega) (by omega) (fun j h1 h2=>?_) (by rw[Ya,<- l1];exact fin);obtain⟨x,ex,rx'⟩:=rx.at (j:=j) (by simpa using h1);obtain⟨y,ey,ry'⟩:=ry.at (j:=j) (by simpa using h2);exact(h j x y ex ey).at I (A:=X.A.in1) (by show X.A.units+1+n<cLine;omega) (by simpa using rx') (by simpa using ry')
 | @lens n _ _ xs ys ha hb hl =>
  obtain⟨us,rx,px,_⟩:=I.list ha;obtain⟨vs,ry,py,_⟩:=I.list hb;have l1:=rx.length
  have l2:=ry.length;exact SeqAt.eq_list_lengthsAt px.isList py.isList (by rw[Ya,Ya];simp;omega) (by omega) fin
 | @tups n _ _ xs ys e ha hb h =>
  obtain⟨us,rx,px,_⟩:=I.tuple ha;obtain⟨vs,ry,py,_⟩:=I.tuple hb;have l1:=rx.length
  have l2:=ry.length;refine SeqAt.eq_tupleAt (e:=e) (show s.heap.IsTuple p us.toArray from px) (show s.heap.IsTuple q vs.toArray from py) (by omega) (fun j h1 h2=>?_) (by rw[Ya,Ya,<- l1,<- l2];exact fin);obtain⟨x,ex,rx'⟩:=rx.at (j:=j) (by simpa using h1);obtain⟨y,ey,ry'⟩:=ry.at (j:=j) (by simpa using h2);exact(h j x y ex ey).at I (A:=X.A.in1) (by show X.A.units+1+n<cLine;omega) (by simpa using rx') (by simpa using ry')
theorem ZS12(hu:X.A.units+8<cLine):OpR X (compareOp .NotEq) (rEqD X.K true):=by
 intro pins s σ H x y u v Q I ru rv h;obtain⟨n,b,p,q,rfl,rfl,hn,d,hq⟩:=h;obtain rfl:u=Value.ref p:=ru;obtain rfl:v=Value.ref q:=rv;have fin:EP X pins σ Q (.bool (!b)) s:=⟨.bl (!b),H,I,rfl,hq⟩
 cases d with
 | flat fx fy=>exact absurd (show false=true from fx) Ys
 | @lsts n _ _ xs ys e ha hb hl h =>
  obtain⟨us,rx,px,_⟩:=I.list ha;obtain⟨vs,ry,py,_⟩:=I.list hb;have l1:=rx.length
  have l2:=ry.length;refine SeqAt.RcNeAt.lists (e:=e) px.isList py.isList (by rw[Ya,Ya];omega) (by omega) (fun j h1 h2=>?_) _ _ _ _ (by rw[Ya,<- l1];exact fin);obtain⟨x,ex,rx'⟩:=rx.at (j:=j) (by simpa using h1);obtain⟨y,ey,ry'⟩:=ry.at (j:=j) (by simpa using h2);exact(h j x y ex ey).at I (A:=X.A.in1) (by show X.A.units+1+n<cLine;omega) (by simpa using rx') (by simpa using ry')
 | @lens n _ _ xs ys ha hb hl =>
  obtain⟨us,rx,px,_⟩:=I.list ha;obtain⟨vs,ry,py,_⟩:=I.list hb;have l1:=rx.length
  have l2:=ry.length;exact SeqAt.RcNeAt.lists_lengths px.isList py.isList (by rw[Ya,Ya];simp;omega) (by omega) _ _ _ _ fin
 | @tups n _ _ xs ys e ha hb h =>
  obtain⟨us,rx,px,_⟩:=I.tuple ha;obtain⟨vs,ry,py,_⟩:=I.tuple hb;have l1:=rx.length
  have l2:=ry.length;refine SeqAt.RcNeAt.tuples (e:=e) (show s.heap.IsTuple p us.toArray from px) (show s.heap.IsTuple q vs.toArray from py) (by omega) (fun j h1 h2=>?_) _ _ _ _ (by rw[Ya,Ya,<- l1,<- l2];exact fin);obtain⟨x,ex,rx'⟩:=rx.at (j:=j) (by simpa using h1);obtain⟨y,ey,ry'⟩:=ry.at (j:=j) (by simpa using h2);exact(h j x y ex ey).at I (A:=X.A.in1) (by show X.A.units+1+n<cLine;omega) (by simpa using rx') (by simpa using ry')
end
end L2
namespace My
open PySem L2
abbrev IL(ns:List Int):List V:=ns.map V.int
theorem Zz4(ns:List Int):(IL ns).length=ns.length:=Yb ..
theorem ZV2(a b:List Int):IL (a++b)=IL a++IL b:=YE ..
theorem ZR(a:List Int)(r:Int):IL (a++[r])=IL a++[.int r]:=YE ..
theorem ZH11(a:List Int)(n:Nat):IL (a.take n)=(IL a).take n:=List.map_take ..
theorem Za3{ns:List Int}{i:Nat}{z:Int}(h:ns[i]?=some z):(IL ns)[i]?=some (.int z):=by rw[Ym,h];rfl
theorem ZW{ns:List Int}{i:Nat}{x:V}(h:(IL ns)[i]?=some x):∃ z,x=.int z/\ns[i]?=some z:=by
 rw[Ym]at h;cases e:ns[i]? with
 | none=>rw[e]at h;cases h
 | some z=>rw[e]at h;exact⟨z,(Yc h).symm,rfl⟩
theorem Zv{H H2:Hp}{a:Addr}{o:HO}(hn:H a=none)(s:Same H H2):Same H (upd H2 a o):=fun b u e=>by rw[Zc (Zb e hn)];exact s b u e
theorem ZT{H H2:Hp}{p:Addr}{o:HO}(s:Same H H2)(hp:H2 p=none):Same H (upd H2 p o):=Zv (s.free hp) s
theorem Zz5{H:Hp}{p:Addr}{o:HO}(hp:H p=none):Same H (upd H p o):=ZT (Same.refl H) hp
theorem ZY{K:PySem.W.Frag}{H H':Hp}{a:Addr}{xs:List V}(e:Same H H')(h:SqT K H a xs):SqT K H' a xs:=by
 rcases h with (h | ⟨o,h⟩) | h
 ·exact .inl (.inl (e _ _ h))
 ·exact .inl (.inr ⟨o,e _ _ h⟩)
 ·exact .inr h
theorem Zg3{n:Nat}(h:n<=1000000):n<=sizeLine:=YF h (by decide)
theorem Zn{n:Nat}(h:n<=1000000):n<sizeLine:=Y2j h (by decide)
theorem hu8{A:Around}{k:Nat}(hr:Room k A):A.units+8<cLine:=Y2j (Nat.add_le_add_left (by decide:8<=64) _) hr.units
theorem ZO{α:Type}{xs:List α}{i:Int}{n:Nat}{x:α}(hi:i=(n:Int))(h:xs[n]?=some x):atI xs i=some x:=by
 subst hi;have hn:n<xs.length:=(Yy2.mp h).1
 unfold atI ixN;rw[if_pos (Int.natCast_nonneg n),if_pos (by omega)];simpa using h
theorem itd{c A B:Prop}[Decidable c](hc:c)(h:A):if decide c=true then A else B:=by rw[if_pos (Yl hc)];exact h
theorem itdn{c A B:Prop}[Decidable c](hc:¬ c)(h:B):if decide c=true then A else B:=by rw[if_neg (by simp[hc])];exact h
theorem itn{c A B:Prop}[Decidable c](hc:c)(h:B):if (!decide c)=true then A else B:=by rw[if_neg (by simp[hc])];exact h
theorem itnn{c A B:Prop}[Decidable c](hc:¬ c)(h:A):if (!decide c)=true then A else B:=by rw[if_pos (by simp[hc])];exact h
theorem itd2{c A B:Prop}[Decidable c](h1:c->A)(h2:¬ c->B):if decide c=true then A else B:=by
 by_cases h:c
 ·exact itd h (h1 h)
 ·exact itdn h (h2 h)
theorem itn2{c A B:Prop}[Decidable c](h1:c->B)(h2:¬ c->A):if (!decide c)=true then A else B:=by
 by_cases h:c
 ·exact itn h (h1 h)
 ·exact itnn h (h2 h)
theorem itb{b:Bool}{A B:Prop}(h1:b=true->A)(h2:b=false->B):if b=true then A else B:=by
 cases b with
 | true=>exact iteT (h1 rfl)
 | false=>exact iteF (h2 rfl)
theorem itnb{b:Bool}{A B:Prop}(h1:b=true->B)(h2:b=false->A):if (!b)=true then A else B:=by
 cases b with
 | true=>exact iteF (h1 rfl)
 | false=>exact iteT (h2 rfl)
def SqK(k:Bool)(K:PySem.W.Frag)(H:Hp)(a:Addr)(xs:List V):Prop:=match k with
 | false=>SqL K H a xs
 | true=>SqT K H a xs
theorem SqK.same{k:Bool}{K:PySem.W.Frag}{H H':Hp}{a:Addr}{xs:List V}(e:Same H H')(h:SqK k K H a xs):SqK k K H' a xs:=by
 cases k with
 | false=>exact e.seq h
 | true=>exact ZY e h
theorem SqK.or{k:Bool}{K:PySem.W.Frag}{H:Hp}{a:Addr}{xs:List V}(h:SqK k K H a xs):SqL K H a xs\/SqT K H a xs:=by
 cases k with
 | false=>exact .inl h
 | true=>exact .inr h
def iSeq(K:PySem.W.Frag)(tl:TE):TI:=fun σ H R=>tl σ H fun x H1=>∃ a,x=.ref a/\(((∃ xs,SqL K H1 a xs)/\R (Itl K a) H1)\/((∃ xs,SqT K H1 a xs)/\R (Itt K a) H1))
theorem pi_seq{X:Cx}{tg:Expr}{l:Expr}{tl:TE}(hl:PE X l tl):PI X tg l (iSeq X.K tl):=by
 intro pins s σ H R I h;refine thn (hl pins s σ H _ I h) fun v s1 hz0=>?_;obtain⟨x,H1,I1,r1,q1⟩:=hz0;obtain⟨a,e,q⟩:=q1;subst e;cases r1;rcases q with ⟨⟨xs,hq⟩,q⟩ | ⟨⟨xs,hq⟩,q⟩
 ·obtain⟨its,rv,p,hz⟩:=I1.list hq;refine Yy28 p.isList ?_;refine⟨s1.heap.objs.size,[s1.heap.objs.size],_,_,H1,rfl,I1.kept (t':=s1.toks) fun b o e=>Yy5 _ e,Zc4 a _,⟨_,Yo _ rfl,rfl,rfl⟩,fun b hb=>?_,q⟩;have e:b=s1.heap.objs.size:=by simpa using hb
  subst e;exact I1.fpOk (Yy7 _) (I1.hok.fresh (Yy7 _))
 ·obtain⟨its,rv,p,hz⟩:=I1.tuple hq;refine wpAny_pyIter_tuple (show s1.heap.IsTuple a its.toArray from p) ?_;refine⟨s1.heap.objs.size,[s1.heap.objs.size],_,_,H1,rfl,I1.kept (t':=s1.toks) fun b o e=>Yy5 _ e,Zd3 a _,⟨_,Yo _ rfl,rfl,rfl⟩,fun b hb=>?_,q⟩;have e:b=s1.heap.objs.size:=by simpa using hb
  subst e;exact I1.fpOk (Yy7 _) (I1.hok.fresh (Yy7 _))
theorem Zx3{K:PySem.W.Frag}{k:Bool}{a:Addr}{xs:List V}{g:TG}{tb:TS}{D:Ends}{σ:St}{H:Hp}(Pv:Nat->St->Hp->Prop)(h0:Pv 0 σ H)(hl:∀ i σ H,i<=xs.length->Pv i σ H->SqK k K H a xs)
  (hs:∀ i x σ H,xs[i]?=some x->Pv i σ H->g x σ H fun σ2 H2=>tb { D with nx:=Pv (i+1),ct:=Pv (i+1),bk:=D.nx } σ2 H2) (hd:∀ σ H,Pv xs.length σ H->D.nx σ H) :
  (((∃ xs,SqL K H a xs)/\∃ W:Nat->Nat->St->Hp->Prop,(∃ m,W 0 m σ H)/\∀ i m σ H,W i m σ H ->
   ((Itl K a).stop i H/\D.nx σ H)\/((Itl K a).go i H/\∃ N:St->Hp->Prop,(∀ σ' H',N σ' H'->∃ m',m'<m/\W (i+1) m' σ' H')/\∀ x H',(Itl K a).yld i H x H'->g x σ H' fun σ2 H2=>tb { D with nx:=N,ct:=N,bk:=D.nx } σ2 H2)) \/
  ((∃ xs,SqT K H a xs)/\∃ W:Nat->Nat->St->Hp->Prop,(∃ m,W 0 m σ H)/\∀ i m σ H,W i m σ H ->
   ((Itt K a).stop i H/\D.nx σ H)\/((Itt K a).go i H/\∃ N:St->Hp->Prop,(∀ σ' H',N σ' H'->∃ m',m'<m/\W (i+1) m' σ' H')/\∀ x H',(Itt K a).yld i H x H'->g x σ H' fun σ2 H2=>tb { D with nx:=N,ct:=N,bk:=D.nx } σ2 H2))):=by
 cases k with
 | false=>exact .inl ⟨⟨xs,hl 0 σ H (Yj _) h0⟩,Zi2 (K:=K) (a:=a) (xs:=xs) Pv h0 hl hs hd⟩
 | true=>exact .inr ⟨⟨xs,hl 0 σ H (Yj _) h0⟩,ZD4 (K:=K) (a:=a) (xs:=xs) Pv h0 hl hs hd⟩
def PairV(H:Hp)(v:V)(p:Int × Int):Prop:=∃ t,v=.ref t/\H t=some (.tup [.int p.1,.int p.2])
def PairsV(H:Hp)(xs:List V)(ps:List (Int × Int)):Prop:=xs.length=ps.length/\∀(i:Nat) (p:Int × Int),ps[i]?=some p->∃ v,xs[i]?=some v/\PairV H v p
theorem PairV.same{H H':Hp}{v:V}{p:Int × Int}(s:Same H H')(h:PairV H v p):PairV H' v p:=let ⟨t,e,q⟩:=h;⟨t,e,s _ _ q⟩
theorem PairsV.same{H H':Hp}{xs:List V}{ps:List (Int × Int)}(s:Same H H')(h:PairsV H xs ps):PairsV H' xs ps:=⟨h.1,fun i p e=>let ⟨v,e1,q⟩:=h.2 i p e;⟨v,e1,q.same s⟩⟩
theorem PairsV.at{H:Hp}{xs:List V}{ps:List (Int × Int)}(h:PairsV H xs ps){i:Nat}{v:V}(e:xs[i]?=some v):∃ p,ps[i]?=some p/\PairV H v p:=by
 have hi:i<xs.length:=(Yy2.mp e).1;have hp:i<ps.length:=by rw[<- h.1];exact hi
 obtain⟨v',e1,q⟩:=h.2 i ps[i] (Yy0 hp);rw[e]at e1;cases e1;exact⟨_,Yy0 hp,q⟩
theorem PairsV.nil{H:Hp}:PairsV H [] []:=⟨rfl,fun i p e=>by simp at e⟩
theorem PairsV.snoc{H:Hp}{xs:List V}{ps:List (Int × Int)}{v:V}{p:Int × Int}(h:PairsV H xs ps)(q:PairV H v p):PairsV H (xs++[v]) (ps++[p]):=by
 refine⟨by rw[Yy8,Yy8,h.1];rfl,fun i p' e=>?_⟩;by_cases hi:i<ps.length
 ·rw[Yx hi]at e;rw[Yx (by rw[h.1];exact hi)];exact h.2 i p' e
 ·have hl:i=ps.length:=by
   have:=(Yy2.mp e).1
   rw[Yy8,YM]at this;omega
  subst hl;rw[Yy (Yy7 _),Y1e]at e;rw[Yy (by rw[h.1];exact Yy7 _),h.1,Y1e];have e':p=p':=Yc e
  subst e';exact⟨v,rfl,q⟩
theorem PairsV.app{H:Hp}{xs ys:List V}{ps qs:List (Int × Int)}(h:PairsV H xs ps)(h2:PairsV H ys qs):PairsV H (xs++ys) (ps++qs):=by
 refine⟨by rw[Yy8,Yy8,h.1,h2.1],fun i p e=>?_⟩;by_cases hi:i<ps.length
 ·rw[Yx hi]at e;rw[Yx (by rw[h.1];exact hi)];exact h.2 i p e
 ·rw[Yy (by omega)]at e;rw[Yy (by rw[h.1];omega),h.1];exact h2.2 _ p e
theorem ZJ13:¬ (("places":Str)="ties"):=by decide +kernel
def wf (n:Int) (tl:Addr):List (Str × V):=putF "ties" (.ref tl) (putF "places" (.int n) [])
theorem Zz31 (n:Int) (tl:Addr):(wf n tl).lookup ("places":Str)=some (.int n):=by unfold wf;rw[Za1,if_neg ZJ13,Za1,if_pos rfl]
theorem Zl1 (n:Int) (tl:Addr):(wf n tl).lookup ("ties":Str)=some (.ref tl):=by unfold wf;rw[Za1,if_pos rfl]
def WebAt(C:Addr)(H:Hp)(w:Addr)(n:Int)(ps:List (Int × Int)):Prop:=∃ dx tl xs,H w=some (.ins C dx (wf n tl))/\H tl=some (.lst xs)/\PairsV H xs ps
theorem WebAt.same{C:Addr}{H H':Hp}{w:Addr}{n:Int}{ps:List (Int × Int)}(s:Same H H')(h:WebAt C H w n ps):WebAt C H' w n ps:=let ⟨dx,tl,xs,a,b,c⟩:=h;⟨dx,tl,xs,s _ _ a,s _ _ b,c.same s⟩
def Zu(n:Int)(ps:List (Int × Int)):Prop:=1<=n/\n<=14/\ps.length<=30/\∀ p∈ps,0<=p.1/\p.1<n/\0<=p.2/\p.2<n
def FX(K:PySem.W.Frag)(mg:Str->Option Value)(x qual:Str)(st:Stmt):Prop:=∃(f:Addr) (fd:FuncData),mg x=some (.ref f)/\Fun K x qual st f fd
theorem fx_mk{K:PySem.W.Frag}{h:Heap}{mg:Str->Option Value}{x:Str}{st:Stmt}{f:Addr}{oc:Value}{od an:Option Addr}{osl:Array (Option Value)}{kV doc pm cdv ct:Value}(X:K.In h)(G:h.Ns mainGlobals mg)
  (a:PySem.W.nsIn K mainGlobals x=some (some (.ref f))) (l:K.lookup f=some ⟨oc,od,.func (PySem.W.fnOf x x (Zm2 st) (Zu1 st) (Zz7 st) .none kV doc pm an cdv ct),osl⟩) (c:PySem.W.codeIn K cdv x=true) (k:PySem.W.keepIn K (.ref f)=true):FX K mg x x st :=
 ⟨f,_,Y2s X G a,ZU9 l c k⟩
def CXF (K:PySem.W.Frag) (mg:Str->Option Value) (x qual:Str) (st:Stmt) (fs:List Str):Prop:=∃(C f:Addr) (fd:FuncData),mg x=some (.ref C)/\Fun K "__init__" qual st f fd/\Cls K C/\Mk K C f/\∀ a∈fs,NoAttr K C a
theorem cx_mk{K:PySem.W.Frag}{h:Heap}{mg:Str->Option Value}{x qual:Str}{fs:List Str}{st:Stmt}{C f:Addr}{oc:Value}{od an:Option Addr}{osl:Array (Option Value)}{kV doc pm cdv ct:Value}(X:K.In h)(G:h.Ns mainGlobals mg)
  (aC:PySem.W.nsIn K mainGlobals x=some (some (.ref C))) (a:PySem.W.findIn K (.ref C) "__init__"=some (some (.ref f))) (i:PySem.W.isFn K (.ref f)=true)
  (l:K.lookup f=some ⟨oc,od,.func (PySem.W.fnOf "__init__" qual (Zm2 st) (Zu1 st) (Zz7 st) .none kV doc pm an cdv ct),osl⟩) (c:PySem.W.codeIn K cdv qual=true) (k:PySem.W.keepIn K (.ref f)=true)
  (pg:PySem.W.plainGet K C Str.empty=true) (hd:PySem.W.hasDictIn K C=true) (po:PySem.W.plainOver K C=true) (sa:PySem.W.findIn K (.ref C) "__setattr__"=some (some (.builtin "object.__setattr__"))) (mk:PySem.W.makesIn K C=true) (kc:PySem.W.keepIn K (.ref C)=true)
  (na:∀ a∈fs,PySem.W.findIn K (.ref C) a=some none):CXF K mg x qual st fs :=
 ⟨C,f,_,Y2s X G aC,ZU9 l c k,⟨pg,hd,po,sa⟩,⟨mk,a,i,kc⟩,na⟩
theorem const_mk{K:PySem.W.Frag}{h:Heap}{mg:Str->Option Value}{x:Str}{z:Int}{v:Value}(X:K.In h)(G:h.Ns mainGlobals mg)(a:PySem.W.nsIn K mainGlobals x=some (some v))(e:∃ tk,v=.int z tk):∃ tk,mg x=some (.int z tk):=by obtain⟨tk,rfl⟩:=e;exact⟨tk,Y2s X G a⟩
theorem nmY{i:Nat}{x:V}{σ:St}{H:Hp}{A B:St->Hp->Prop}(h:A (σ.set i (some x)) H):ZA8 i x σ H fun σ2 H2=>tYes σ2 H2 fun b H3=>if b=true then A σ2 H3 else B σ2 H3 :=
 (show if true=true then A (σ.set i (some x)) H else B (σ.set i (some x)) H from iteT h)
theorem nm{i:Nat}{x:V}{σ:St}{H:Hp}{Q:St->Hp->Prop}(h:Q (σ.set i (some x)) H):ZA8 i x σ H Q:=h
section
variable{K:PySem.W.Frag}{a:Addr}{xs:List V}{g:TG}{tt:TT}{te:TE}{o:Nat}{fr:List Nat}{σ:St}{H:Hp}{Q:VK}
abbrev Zr5(Pv:Nat->List V->Hp->Prop)(g:TG)(tt:TT)(te:TE)(o:Nat)(fr:List Nat)(σ:St)(i:Nat)(x:V)(ys:List V)(H:Hp):Prop :=
 ∀ S:Nat->List V->Hp->Prop,(∀ ys H,Pv (i+1) ys H->S (i+1) ys H)->g x (σC o fr σ) H fun σ2 H2=>tt σ2 H2 fun b H3=>if b=true then te σ2 H3 fun y H4=>S (i+1) (ys++[y]) H4 else S (i+1) ys H3
theorem ZD1(Pv:Nat->List V->Hp->Prop)(h0:Pv 0 [] H)(hz:xs.length<sizeLine)(hl:∀ i ys H,i<=xs.length->Pv i ys H->SqL K H a xs/\ys.length<=i)
  (hs:∀ i x ys H,xs[i]?=some x->Pv i ys H->Zr5 Pv g tt te o fr σ i x ys H) (hd:∀ ys H,Pv xs.length ys H->∀ p,H p=none->Q (.ref p) (upd H p (.lst ys))):LcR (Itl K a) g tt te o fr σ H Q:=by
 refine⟨fun i m ys H=>m=xs.length - i/\i<=xs.length/\Pv i ys H,⟨xs.length,by simp,Yj _,h0⟩,?_⟩;rintro i m ys H ⟨rfl,hi,p⟩;obtain⟨q,hy⟩:=hl i ys H hi p;by_cases hlt:i<xs.length
 ·refine .inr ⟨⟨xs,xs[i],q,by simp[hlt]⟩,by omega,fun x H' ⟨e,y⟩=>?_⟩;subst e;have hx:=y xs q
  exact hs i x ys _ hx p (fun j ys H=>∃ m',m'<xs.length - i/\m'=xs.length - j/\j<=xs.length/\Pv j ys H) fun ys H p'=>⟨xs.length - (i+1),by omega,rfl,hlt,p'⟩
 ·have e:i=xs.length:=by omega
  subst e;exact .inl ⟨⟨xs,q,Yy7 _⟩,by omega,hd ys H p⟩
theorem Yz7(Pv:Nat->List V->Hp->Prop)(h0:Pv 0 [] H)(hz:xs.length<sizeLine)(hl:∀ i ys H,i<=xs.length->Pv i ys H->SqT K H a xs/\ys.length<=i)
  (hs:∀ i x ys H,xs[i]?=some x->Pv i ys H->Zr5 Pv g tt te o fr σ i x ys H) (hd:∀ ys H,Pv xs.length ys H->∀ p,H p=none->Q (.ref p) (upd H p (.lst ys))):LcR (Itt K a) g tt te o fr σ H Q:=by
 refine⟨fun i m ys H=>m=xs.length - i/\i<=xs.length/\Pv i ys H,⟨xs.length,by simp,Yj _,h0⟩,?_⟩;rintro i m ys H ⟨rfl,hi,p⟩;obtain⟨q,hy⟩:=hl i ys H hi p;by_cases hlt:i<xs.length
 ·refine .inr ⟨⟨xs,xs[i],q,by simp[hlt]⟩,by omega,fun x H' ⟨e,y⟩=>?_⟩;subst e;have hx:=y xs q
  exact hs i x ys _ hx p (fun j ys H=>∃ m',m'<xs.length - i/\m'=xs.length - j/\j<=xs.length/\Pv j ys H) fun ys H p'=>⟨xs.length - (i+1),by omega,rfl,hlt,p'⟩
 ·have e:i=xs.length:=by omega
  subst e;exact .inl ⟨⟨xs,q,Yy7 _⟩,by omega,hd ys H p⟩
theorem ZH9{k:Bool}(Pv:Nat->List V->Hp->Prop)(h0:Pv 0 [] H)(hz:xs.length<sizeLine)(hl:∀ i ys H,i<=xs.length->Pv i ys H->SqK k K H a xs/\ys.length<=i)
  (hs:∀ i x ys H,xs[i]?=some x->Pv i ys H->Zr5 Pv g tt te o fr σ i x ys H) (hd:∀ ys H,Pv xs.length ys H->∀ p,H p=none->Q (.ref p) (upd H p (.lst ys))) :
  ((∃ xs,SqL K H a xs)/\LcR (Itl K a) g tt te o fr σ H Q)\/((∃ xs,SqT K H a xs)/\LcR (Itt K a) g tt te o fr σ H Q):=by
 cases k with
 | false=>exact .inl ⟨⟨xs,(hl 0 [] H (Yj _) h0).1⟩,ZD1 Pv h0 hz hl hs hd⟩
 | true=>exact .inr ⟨⟨xs,(hl 0 [] H (Yj _) h0).1⟩,Yz7 Pv h0 hz hl hs hd⟩
theorem Zl6{lo:Int}{n:Nat}(Pv:Nat->List V->Hp->Prop)(h0:Pv 0 [] H)(hz:n<sizeLine)(hl:∀ i ys H,i<=n->Pv i ys H->ys.length<=i)
  (hs:∀ i ys H,i<n->Pv i ys H->Zr5 Pv g tt te o fr σ i (.int (lo+i)) ys H) (hd:∀ ys H,Pv n ys H->∀ p,H p=none->Q (.ref p) (upd H p (.lst ys))):LcR (Itr lo n) g tt te o fr σ H Q:=by
 refine⟨fun i m ys H=>m=n - i/\i<=n/\Pv i ys H,⟨n,by simp,Yj _,h0⟩,?_⟩;rintro i m ys H ⟨rfl,hi,p⟩;have hy:=hl i ys H hi p
 by_cases hlt:i<n
 ·refine .inr ⟨hlt,by omega,fun x H' ⟨e,y⟩=>?_⟩;subst e;subst y;exact hs i ys _ hlt p (fun j ys H=>∃ m',m'<n - i/\m'=n - j/\j<=n/\Pv j ys H) fun ys H p'=>⟨n - (i+1),by omega,rfl,hlt,p'⟩
 ·have e:i=n:=by omega
  subst e;exact .inl ⟨Yy7 _,by omega,hd ys H p⟩
end
theorem nodup_get{α:Type}{l:List α}(h:l.Nodup){i j:Nat}{x:α}(a:l[i]?=some x)(b:l[j]?=some x):i=j:=by obtain⟨h1,e1⟩:=Yy2.mp a;obtain⟨h2,e2⟩:=Yy2.mp b;exact(List.getElem_inj h).mp (e1.trans e2.symm)
theorem getD_of{α:Type}{l:List α}{i:Nat}{x d:α}(h:l[i]?=some x):l.getD i d=x:=by rw[Yy3,h];rfl
theorem Zi8{α:Type}{l:List α}{x:α}(h:l.Nodup)(hx:x∉l):(l++[x]).Nodup:=by rw[Yy06];refine⟨h,by simp,fun a ha b hb=>?_⟩;rw[Yy1]at hb;subst hb;rintro rfl;exact hx ha
theorem ZZ3{K:PySem.W.Frag}{a:Addr}{xs:List V}{g:TG}{tb:TS}{D:Ends}{σ:St}{H:Hp}(Pv:Nat->St->Hp->Prop)(h0:Pv 0 σ H)(hl:∀ i σ H,i<=xs.length->Pv i σ H->SqL K H a xs)
  (hs:∀(i:Nat) x σ H (p:Addr),H p=none->xs[i]?=some x->Pv i σ H->g (.ref p) σ (upd H p (.tup [.int i,x])) fun σ2 H2=>tb { D with nx:=Pv (i+1),ct:=Pv (i+1),bk:=D.nx } σ2 H2) (hd:∀ σ H,Pv xs.length σ H->D.nx σ H) :
  ∃ W:Nat->Nat->St->Hp->Prop,(∃ m,W 0 m σ H)/\∀ i m σ H,W i m σ H ->
   ((Ite K a).stop i H/\D.nx σ H)\/((Ite K a).go i H/\∃ N:St->Hp->Prop,(∀ σ' H',N σ' H'->∃ m',m'<m/\W (i+1) m' σ' H')/\∀ x H',(Ite K a).yld i H x H'->g x σ H' fun σ2 H2=>tb { D with nx:=N,ct:=N,bk:=D.nx } σ2 H2):=by
 refine⟨fun i m σ H=>m=xs.length - i/\i<=xs.length/\Pv i σ H,⟨xs.length,by simp,Yj _,h0⟩,?_⟩;rintro i m σ H ⟨rfl,hi,p⟩;have q:=hl i σ H hi p
 by_cases hlt:i<xs.length
 ·refine .inr ⟨⟨xs,xs[i],q,by simp[hlt]⟩,Pv (i+1),fun σ' H' p'=>⟨xs.length - (i+1),by omega,rfl,hlt,p'⟩,fun x H' ⟨T,y,hT,ex,eH,hy⟩=>?_⟩;subst ex eH;exact hs i y σ H T hT (hy xs q) p
 ·have e:i=xs.length:=by omega
  subst e;exact .inl ⟨⟨xs,q,Yy7 _⟩,hd σ H p⟩
end My
namespace L2
open PySem PySem.Spec PyProof.Rows
section
variable{X:Cx}{a o e:Expr}{es:List Expr}{ta to:TE}{t:TA}{pos:Pos}
theorem Zm(K:PySem.W.Frag)(h:X.K=K:=by rfl):IxR X (rIxL K):=h ▸ ZB11
theorem ZF(K:PySem.W.Frag)(h:X.K=K:=by rfl):IxR X (rIxT K):=h ▸ Zz213
theorem Zz62(K:PySem.W.Frag)(h:X.K=K:=by rfl):SlR X (rSlL K):=h ▸ ZI10
theorem Zd11(K:PySem.W.Frag)(h:X.K=K:=by rfl):OpR X (compareOp .In) (fun x y H Q=>∃ p xs,y=.ref p/\(SqL K H p xs\/SqT K H p xs)/\ZG3 x=true/\xs.all ZG3=true/\Q (.bl (inV x xs)) H):=h ▸ Zt7
theorem ZM2(K:PySem.W.Frag)(h:X.K=K:=by rfl):OpR X (compareOp .NotIn) (fun x y H Q=>∃ p xs,y=.ref p/\(SqL K H p xs\/SqT K H p xs)/\ZG3 x=true/\xs.all ZG3=true/\Q (.bl (!inV x xs)) H):=h ▸ ZR3
theorem Zz26(K:PySem.W.Frag)(hu:X.A.units+8<cLine)(h:X.K=K:=by rfl):OpR X (compareOp .Eq) (rEqD K false):=h ▸ ZT12 hu
theorem Zp3(K:PySem.W.Frag)(hu:X.A.units+8<cLine)(h:X.K=K:=by rfl):OpR X (compareOp .NotEq) (rEqD K true):=h ▸ ZS12 hu
theorem Zs9(K:PySem.W.Frag)(h:X.K=K:=by rfl):OpR X (binaryOp .Add) (Zp13 K):=h ▸ Zf11
theorem ZL(K:PySem.W.Frag){f:Str}(he:PE X e ta)(hb:attributeBase e f X.env (eval e X.env)=eval e X.env)(h:X.K=K:=by rfl):PE X (.Attribute e f pos) (tFld K ta f):=h ▸ ZQ12 he hb
theorem Zk (K:PySem.W.Frag) (h:X.K=K:=by rfl):Zb3 X (.builtin "len") (fun xs H Q=>∃ p ys,xs=[.ref p]/\(SqL K H p ys\/SqT K H p ys)/\Q (.int ys.length) H):=h ▸ Zz84
theorem ZS (K:PySem.W.Frag) (h:X.K=K:=by rfl):Zb3 X (.type "list") (fun xs H Q=>∃ p ys,xs=[.ref p]/\(SqL K H p ys\/SqT K H p ys)/\∀ l,H l=none->Q (.ref l) (upd H l (.lst ys))):=h ▸ Zz74
theorem Zs1 (K:PySem.W.Frag) (h:X.K=K:=by rfl):Zb3 X (.type "tuple") (fun xs H Q=>∃ p ys,xs=[.ref p]/\((SqL K H p ys/\∀ l,H l=none->Q (.ref l) (upd H l (.tup ys)))\/(SqT K H p ys/\Q (.ref p) H))):=h ▸ ZB3
theorem ZW4 (K:PySem.W.Frag) (hc:X.calm=true) (h:X.K=K:=by rfl):Zb3 X (.builtin "sum") (fun xs H Q=>∃(p:Addr) (ns:List Int),xs=[.ref p]/\SqL K H p (ns.map V.int)/\Q (.int ns.sum) H):=h ▸ ZC3 hc
theorem ZU(K:PySem.W.Frag){tg:Expr}{l:Expr}{tl:TE}(hl:PE X l tl)(h:X.K=K:=by rfl):PI X tg l (Zr13 K tl):=h ▸ Zz311 hl
theorem Zx2(K:PySem.W.Frag){tg:Expr}{l:Expr}{tl:TE}(hl:PE X l tl)(h:X.K=K:=by rfl):PI X tg l (iTup K tl):=h ▸ ZN12 hl
theorem ZN1(K:PySem.W.Frag){tg:Expr}{l:Expr}{tl:TE}(hl:PE X l tl)(h:X.K=K:=by rfl):PI X tg l (My.iSeq K tl):=h ▸ My.pi_seq hl
theorem Zw1 (K:PySem.W.Frag) {elts:List Expr} {x1:Nat} {tpos:Pos} {a:Expr} {ta:TA} {p pos:Pos} (hg:Gl X "enumerate") (hm:X.mg "enumerate"=none) (ha:PA X [a] ta) (hs:starEach [a] X.env=[(false,eval a X.env)]:=by rfl) (h:X.K=K:=by rfl) :
  PI X (.Tuple elts x1 tpos) (.Call (.Name "enumerate" p) [a] [] pos) (Zs13 K ta):=h ▸ Zz411 hg hm ha hs
theorem Zz71(K:PySem.W.Frag){es:List Expr}{k:Nat}{t:TGs}{n:Nat}(hc:X.calm=true)(ht:PGs X es t)
  (hn:(assignEach es X.env).length=n:=by rfl) (hst:(assignEach es X.env).findIdx? (·.1)=none:=by rfl) (h:X.K=K:=by rfl):PG X (.Tuple es k pos) (gTup K n t):=h ▸ ZO12 hc ht hn hst
theorem Zf1 (K:PySem.W.Frag) {name:Str} {apos cpos:Pos} {T id:String} {r:V->List V->Hp->VK->Prop} (pa:PlainAttrs T) (slot:Slot T name id) (hty:typeOf (.builtin id)=pure (.type "method_descriptor")) (hm:MtR X id r) (ho:PE X o to) (ha:PA X (e :: es) t)
  (hbase:attributeBase o name X.env (eval o X.env)=eval o X.env:=by rfl)
  (hfew:((backTo cpos (starEach (e :: es) X.env)).all (fun x=>!x.1) && (backToKw cpos (keywordEach [] X.env)).all (fun x=>x.1.isSome)
   && decide ((e :: es).length+([]:List Keyword).length+(if ([]:List Keyword).isEmpty then 0 else 1)<30))=true:=by rfl)
  (hline:(apos.endLine == cpos.line)=true:=by rfl) (hs:starEach (e :: es) X.env=(false,eval e X.env) :: starEach es X.env:=by rfl) (hplain:(backTo cpos (starEach es X.env)).any (·.1)=false:=by rfl) (h:X.K=K:=by rfl) :
  PE X (.Call (.Attribute o name apos) (e :: es) [] cpos) (tBM K T r to t):=h ▸ ZK13 pa slot hty hm ho ha hbase hfew hline hs hplain
theorem Zz811 (K:PySem.W.Frag) {name:Str} {apos cpos:Pos} {T id:String} {r:V->List V->Hp->VK->Prop} (pa:PlainAttrs T) (slot:Slot T name id) (hty:typeOf (.builtin id)=pure (.type "method_descriptor")) (hm:MtR X id r) (ho:PE X o to)
  (hbase:attributeBase o name X.env (eval o X.env)=eval o X.env:=by rfl) (hline:(apos.endLine == cpos.line)=true:=by rfl) (h:X.K=K:=by rfl):PE X (.Call (.Attribute o name apos) [] [] cpos) (tBM0 K T r to):=h ▸ ZR12 pa slot hty hm ho hbase hline
end
end L2
namespace My
abbrev mk(m:List Int)(i:Nat):Int:=m.getD i 0
def pm(m:List Int)(a b:Nat):List Int :=
 if min (mk m a) (mk m b)<max (mk m a) (mk m b) then m.map (fun k=>if k=max (mk m a) (mk m b) then min (mk m a) (mk m b) else k) else m
def lm(m:List Int)(a b:Nat):List Int :=
 if mk m a≠mk m b then m.map (fun k=>if k=mk m b then mk m a else k) else m
def SameP(m l:List Int):Prop:=m.length=l.length/\∀ i j,i<m.length->j<m.length->(mk m i=mk m j↔mk l i=mk l j)
theorem ZS3(m:List Int)(f:Int->Int){i:Nat}(h:i<m.length):mk (m.map f) i=f (mk m i):=by simp[mk,Yy3,Ym,Yy0 h]
theorem Yz1(m:List Int)(a b:Nat):(pm m a b).length=m.length:=by unfold pm;split <;> simp
theorem ZX1(m:List Int)(a b:Nat):(lm m a b).length=m.length:=by unfold lm;split <;> simp
def Mrg(m:List Int)(a b i j:Nat):Prop:=mk m i=mk m j\/((mk m i=mk m a\/mk m i=mk m b)/\(mk m j=mk m a\/mk m j=mk m b))
theorem ZL12{m:List Int}{a b i j:Nat}(hi:i<m.length)(hj:j<m.length):mk (pm m a b) i=mk (pm m a b) j↔Mrg m a b i j:=by
 unfold pm Mrg;split
 ·rename_i h;rw[ZS3 _ _ hi,ZS3 _ _ hj];generalize mk m i=x at *;generalize mk m j=y at *;generalize mk m a=p at *;generalize mk m b=q at *;by_cases hpq:p<q
  ·rw[Y2S (by omega),Int.max_eq_right (by omega)];split <;> split <;> omega
  ·rw[Y2L (by omega),Int.max_eq_left (by omega)]at *;split <;> split <;> omega
 ·rename_i h;generalize mk m i=x at *;generalize mk m j=y at *;generalize mk m a=p at *;generalize mk m b=q at *;omega
theorem Zh6{m:List Int}{a b i j:Nat}(hi:i<m.length)(hj:j<m.length):mk (lm m a b) i=mk (lm m a b) j↔Mrg m a b i j:=by
 unfold lm Mrg;split
 ·rename_i h;rw[ZS3 _ _ hi,ZS3 _ _ hj];generalize mk m i=x at *;generalize mk m j=y at *;generalize mk m a=p at *;generalize mk m b=q at *;split <;> split <;> omega
 ·rename_i h;generalize mk m i=x at *;generalize mk m j=y at *;generalize mk m a=p at *;generalize mk m b=q at *;omega
theorem SameP.step{m l:List Int}(s:SameP m l){a b:Nat}(ha:a<m.length)(hb:b<m.length):SameP (pm m a b) (lm l a b):=by obtain⟨hl,h⟩:=s;refine⟨by rw[Yz1,ZX1,hl],fun i j hi hj=>?_⟩;rw[Yz1]at hi hj;rw[ZL12 hi hj,Zh6 (by omega) (by omega)];unfold Mrg;rw[h i j hi hj,h i a hi ha,h i b hi hb,h j a hj ha,h j b hj hb]
def pms(n:Nat)(es:List (Nat × Nat)):List Int:=es.foldl (fun m e=>pm m e.1 e.2) ((List.range n).map fun(i:Nat)=>(i:Int))
def lms(n:Nat)(es:List (Nat × Nat)):List Int:=es.foldl (fun m e=>lm m e.1 e.2) ((List.range n).map fun(i:Nat)=>(i:Int))
theorem Zi(n:Nat)(es:List (Nat × Nat)):(pms n es).length=n:=by
 have:∀(es:List (Nat × Nat)) (m:List Int),(es.foldl (fun m e=>pm m e.1 e.2) m).length=m.length:=by
  intro es
  induction es with
  | nil=>intro m;rfl
  | cons e es ih=>intro m;rw[Yy29,ih,Yz1]
 unfold pms;rw[this];simp
theorem ZD(n:Nat)(es:List (Nat × Nat)):(lms n es).length=n:=by
 have:∀(es:List (Nat × Nat)) (m:List Int),(es.foldl (fun m e=>lm m e.1 e.2) m).length=m.length:=by
  intro es
  induction es with
  | nil=>intro m;rfl
  | cons e es ih=>intro m;rw[Yy29,ih,ZX1]
 unfold lms;rw[this];simp
theorem ZU5(n:Nat)(es:List (Nat × Nat))(e:Nat × Nat):pms n (es++[e])=pm (pms n es) e.1 e.2:=by unfold pms;rw[Y1s];rfl
theorem Zg1(n:Nat)(es:List (Nat × Nat))(e:Nat × Nat):lms n (es++[e])=lm (lms n es) e.1 e.2:=by unfold lms;rw[Y1s];rfl
theorem ZI2{n:Nat}:∀ {es:List (Nat × Nat)},(∀ e∈es,e.1<n/\e.2<n)->SameP (pms n es) (lms n es):=by
 intro es;have key:∀(es:List (Nat × Nat)) (m l:List Int),SameP m l->m.length=n->(∀ e∈es,e.1<n/\e.2<n)->SameP (es.foldl (fun m e=>pm m e.1 e.2) m) (es.foldl (fun m e=>lm m e.1 e.2) l):=by
  intro es
  induction es with
  | nil=>intro m l s _ _;exact s
  | cons e es ih =>
   intro m l s hm he;have h1:=he e Ye
   exact ih _ _ (s.step (by omega) (by omega)) (by rw[Yz1];exact hm) fun x hx=>he x (Yg _ hx)
 exact key es _ _ ⟨rfl,fun i j _ _=>Iff.rfl⟩ (by simp)
def ZW3(g:List (Int × List Int))(place k:Int):List (Int × List Int) :=
 if k∈g.map (·.1) then g.map (fun kv=>if kv.1=k then (kv.1,kv.2++[place]) else kv) else g++[(k,[place])]
def grpA(M:List Int):Nat->List (Int × List Int)
 | 0=>[]
 | i+1=>ZW3 (grpA M i) (i:Int) (mk M i)
def grp(M:List Int):List (Int × List Int):=grpA M M.length
theorem ZE1(g:List (Int × List Int))(p k:Int):(ZW3 g p k).map (·.1)=if k∈g.map (·.1) then g.map (·.1) else g.map (·.1)++[k]:=by
 unfold ZW3;split
 ·rw[Y1B];refine YL fun kv _=>?_;show(if kv.1=k then (kv.1,kv.2++[p]) else kv).1=kv.1
  split <;> rfl
 ·simp
theorem Zh5{g:List (Int × List Int)}{p k:Int}(h:(g.map (·.1)).Nodup):((ZW3 g p k).map (·.1)).Nodup:=by
 rw[ZE1];split
 ·exact h
 ·rename_i hk;rw[Yy06];refine⟨h,by simp,fun a ha b hb=>?_⟩;rw[Yy1]at hb;subst hb;rintro rfl;exact hk ha
theorem Zh2(M:List Int):∀ i,((grpA M i).map (·.1)).Nodup
 | 0=>by simp[grpA]
 | i+1=>Zh5 (Zh2 M i)
theorem grpA_mem(M:List Int):∀ i kv,kv∈grpA M i->∀ z:Int,z∈kv.2↔(0<=z/\z<(i:Int)/\mk M z.toNat=kv.1)
 | 0,kv,h,z=>by simp[grpA]at h
 | i+1,kv,h,z=>by
  unfold grpA ZW3 at h;split at h
  ·rename_i hk;obtain⟨kv0,h0,e⟩:=Yr.mp h;have ih:=grpA_mem M i kv0 h0 z
   by_cases hc:kv0.1=mk M i
   ·rw[if_pos hc]at e;subst e;rw[Yy9,ih,Yy1];constructor
    ·rintro(⟨a,b,c⟩ | rfl)
     ·exact⟨a,by omega,c⟩
     ·exact⟨by omega,by omega,by simpa using hc.symm⟩
    ·rintro⟨a,b,c⟩;by_cases hz:z<(i:Int)
     ·exact .inl ⟨a,hz,c⟩
     ·exact .inr (by omega)
   ·rw[if_neg hc]at e;subst e;rw[ih];constructor
    ·rintro⟨a,b,c⟩;exact⟨a,by omega,c⟩
    ·rintro⟨a,b,c⟩;refine⟨a,?_,c⟩;by_cases hz:z<(i:Int)
     ·exact hz
     ·have e:z.toNat=i:=by omega
      rw[e]at c;exact absurd c.symm hc
  ·rename_i hk;rcases Yy9.mp h with h0 | h0
   ·have ih:=grpA_mem M i kv h0 z;rw[ih];constructor
    ·rintro⟨a,b,c⟩;exact⟨a,by omega,c⟩
    ·rintro⟨a,b,c⟩;refine⟨a,?_,c⟩;by_cases hz:z<(i:Int)
     ·exact hz
     ·have e:z.toNat=i:=by omega
      rw[e]at c;exact absurd (Yr.mpr ⟨kv,h0,c.symm⟩) hk
   ·rw[Yy1]at h0;subst h0;simp only [Yy1];constructor
    ·rintro rfl;exact⟨by omega,by omega,by simp⟩
    ·rintro⟨a,b,c⟩;by_cases hz:z<(i:Int)
     ·exfalso;have key:=grpA_key M i z.toNat (by omega)
      rw[c]at key;exact hk key
     ·omega
where
 grpA_key (M:List Int):∀ i j,j<i->mk M j∈(grpA M i).map (·.1)
  | 0,j,h=>absurd h (Yy08 j)
  | i+1,j,h=>by
   show mk M j∈(ZW3 (grpA M i) (i:Int) (mk M i)).map (·.1);rw[ZE1];by_cases hj:j<i
   ·have:=grpA_key M i j hj
    split
    ·exact this
    ·exact Yk _ this
   ·have e:j=i:=by omega
    subst e;split
    ·assumption
    ·simp
theorem grpA_key{M:List Int}{i j:Nat}(h:j<i):mk M j∈(grpA M i).map (·.1):=grpA_mem.grpA_key M i j h
theorem Zr1(M:List Int):∀ i k,k∈(grpA M i).map (·.1)->∃ j,j<i/\mk M j=k
 | 0,k,h=>by simp[grpA]at h
 | i+1,k,h=>by
  have h:k∈(ZW3 (grpA M i) (i:Int) (mk M i)).map (·.1):=h;rw[ZE1]at h;have old:k∈(grpA M i).map (·.1)->∃ j,j<i+1/\mk M j=k:=fun q=>by obtain⟨j,hj,e⟩:=Zr1 M i k q;exact⟨j,by omega,e⟩
  split at h
  ·exact old h
  ·rcases Yy9.mp h with q | q
   ·exact old q
   ·rw[Yy1]at q;exact⟨i,by omega,q.symm⟩
theorem Zu8{M:List Int}(hM:1<=M.length):(grp M).length=1↔∀ i j,i<M.length->j<M.length->mk M i=mk M j:=by
 unfold grp;constructor
 ·intro h i j hi hj;obtain⟨kv,e⟩:=List.length_eq_one_iff.mp h;have h1:=grpA_key (M:=M) hi
  have h2:=grpA_key (M:=M) hj;rw[e]at h1 h2;rw[Y2l,Yy1]at h1 h2;rw[h1,h2]
 ·intro h;have nd:=Zh2 M M.length
  have h0:=grpA_key (M:=M) (i:=M.length) (j:=0) (by omega);generalize hg:(grpA M M.length)=g at *
  match g,hg with
  | [],_=>simp at h0
  | [kv],_=>rfl
  | a :: b :: r,hg =>
   exfalso;obtain⟨i,hi,e1⟩:=Zr1 M M.length a.1 (by rw[hg];simp)
   obtain⟨j,hj,e2⟩:=Zr1 M M.length b.1 (by rw[hg];simp);have e3:=h i j hi hj
   have:a.1=b.1:=by rw[<- e1,<- e2,e3]
   simp[this]at nd
theorem SameP.one{m l:List Int}(s:SameP m l):(∀ i j,i<m.length->j<m.length->mk m i=mk m j)↔(∀ i j,i<l.length->j<l.length->mk l i=mk l j):=by
 obtain⟨hl,h⟩:=s;rw[<- hl];constructor
 ·intro q i j hi hj;exact(h i j hi hj).mp (q i j hi hj)
 ·intro q i j hi hj;exact(h i j hi hj).mpr (q i j hi hj)
theorem ZX3{M:List Int}:∀ {i:Nat} {kv:Int × List Int},kv∈grpA M i->kv.2.length<=i
 | 0,kv,h=>by simp[grpA]at h
 | i+1,kv,h=>by
  unfold grpA ZW3 at h;split at h
  ·obtain⟨kv0,h0,e⟩:=Yr.mp h;have ih:=ZX3 h0
   by_cases hc:kv0.1=mk M i
   ·rw[if_pos hc]at e;subst e;rw[Yy8,YM];omega
   ·rw[if_neg hc]at e;subst e;omega
  ·rcases Yy9.mp h with h0 | h0
   ·have ih:=ZX3 h0;omega
   ·rw[Yy1]at h0;subst h0;simp
end My
namespace My
open PySem L2 PyProof.Rows
theorem ZV3(z:Int)(l:List Int):inV (.int z) (IL l)=decide (z∈l):=by
 unfold inV;rw[List.any_map];rw[Y0h,Y2J,YJ];constructor
 ·rintro⟨y,hy,e⟩;have e':y=z:=by simpa [eqV] using e
  rw[<- e'];exact hy
 ·intro h;exact⟨z,h,by simp[eqV]⟩
theorem Zz03(l:List Int):(IL l).all ZG3=true:=by rw[List.all_map,Y0l];intro x _;rfl
theorem ZB{a b:Int}:decide (V.int a=V.int b)=decide (a=b):=by
 by_cases h:a=b
 ·subst h;simp
 ·have h':¬ V.int a=V.int b:=fun z=>h (V.int.inj z);rw[YW h,YW h']
end My
namespace My
open PySem L2
def IsSet(m:Nat)(ns:List Int):Prop:=∀ i z,ns[i]?=some z->0<=z/\z<(m:Int)/\∀ y,i≠0->ns[i - 1]?=some y->y<z
def Zz8(ps:List (Int × Int))(ns:List Int):List (Nat × Nat):=ns.map fun z=>((ps.getD z.toNat (0,0)).1.toNat,(ps.getD z.toNat (0,0)).2.toNat)
theorem Zl5{ps:List (Int × Int)}{ns:List Int}{i:Nat}{z:Int}(h:ns[i]?=some z):Zz8 ps (ns.take (i+1))=Zz8 ps (ns.take i)++[((ps.getD z.toNat (0,0)).1.toNat,(ps.getD z.toNat (0,0)).2.toNat)]:=by unfold Zz8;rw[YO,h];simp
theorem ZO1{m:List Int}{i:Nat}(h:i<m.length):m[i]?=some (mk m i):=by rw[Yy0 h];simp[mk,Yy3,Yy0 h]
theorem Zj7(n:Int):rngI 0 n=(List.range n.toNat).map fun(i:Nat)=>(i:Int):=by unfold rngI;rw[Y2K];refine YL fun i _=>?_;omega
def gkv(g:List (Int × List Int))(as:List Addr):List (Key × V):=List.zipWith (fun kv a=>((Sum.inl kv.1:Key),V.ref a)) g as
theorem Zy6{g:List (Int × List Int)}{as:List Addr}(h:as.length=g.length):(gkv g as).length=g.length:=by unfold gkv;rw[Y1j];omega
theorem Zy8:∀ {g:List (Int × List Int)} {as:List Addr},as.length=g.length->(gkv g as).map (·.2)=as.map V.ref
 | [],[],_=>rfl
 | [],_ :: _,h=>by simp at h
 | _ :: _,[],h=>by simp at h
 | kv :: g,a :: as,h=>by show V.ref a :: (gkv g as).map (·.2)=V.ref a :: as.map V.ref;rw[Zy8 (Y1d h)]
theorem Yz6:∀ {g g':List (Int × List Int)} {as:List Addr},g.map (·.1)=g'.map (·.1)->gkv g as=gkv g' as
 | [],[],_,_=>rfl
 | [],_ :: _,_,h=>by simp at h
 | _ :: _,[],_,h=>by simp at h
 | kv :: g,kv' :: g',[],_=>rfl
 | kv :: g,kv' :: g',a :: as,h=>by
  rw[YI,YI,List.cons.injEq]at h;show((Sum.inl kv.1:Key),V.ref a) :: gkv g as=((Sum.inl kv'.1:Key),V.ref a) :: gkv g' as
  rw[h.1,Yz6 h.2]
theorem Zx6:∀ {g:List (Int × List Int)} {as:List Addr} {kv:Int × List Int} {a:Addr},as.length=g.length->gkv (g++[kv]) (as++[a])=gkv g as++[((Sum.inl kv.1:Key),V.ref a)]
 | [],[],_,_,_=>rfl
 | [],_ :: _,_,_,h=>by simp at h
 | _ :: _,[],_,_,h=>by simp at h
 | x :: g,y :: as,kv,a,h=>by show _ :: gkv (g++[kv]) (as++[a])=_ :: (gkv g as++_);rw[Zx6 (Y1d h)]
theorem Zw6:∀ {g:List (Int × List Int)} {as:List Addr} {k:Int},as.length=g.length ->
  (valV (gkv g as) (Sum.inl k:Key)=none/\k∉g.map (·.1))\/∃(j:Nat) (kv:Int × List Int) (a:Addr),g[j]?=some kv/\as[j]?=some a/\kv.1=k/\valV (gkv g as) (Sum.inl k:Key)=some (.ref a)
 | [],[],k,_=>.inl ⟨rfl,by simp⟩
 | [],_ :: _,_,h=>by simp at h
 | _ :: _,[],_,h=>by simp at h
 | kv :: g,a :: as,k,h=>by
  by_cases e:kv.1=k
  ·refine .inr ⟨0,kv,a,rfl,rfl,e,?_⟩;show valV (((Sum.inl kv.1:Key),V.ref a) :: gkv g as) _=_
   rw[ZH3 (by rw[e])]
  ·have e':¬ ((Sum.inl kv.1:Key)=Sum.inl k):=fun z=>e (Sum.inl.inj z);have ev:valV (gkv (kv :: g) (a :: as)) (Sum.inl k:Key)=valV (gkv g as) (Sum.inl k:Key):=ZI3 (p:=((Sum.inl kv.1:Key),V.ref a)) e'
   rcases Zw6 (g:=g) (as:=as) (k:=k) (Y1d h) with ⟨h1,h2⟩ | ⟨j,kv',a',h1,h2,h3,h4⟩
   ·refine .inl ⟨by rw[ev];exact h1,?_⟩;rw[YI,Yh];rintro(z | z)
    ·exact e z.symm
    ·exact h2 z
   ·exact .inr ⟨j+1,kv',a',by simpa using h1,by simpa using h2,h3,by rw[ev];exact h4⟩
structure GrpAt (H0 H:Hp) (g:List (Int × List Int)) (as:List Addr):Prop where
 len:as.length=g.length
 nd:as.Nodup
 at_:∀(i:Nat) (kv:Int × List Int) (a:Addr),g[i]?=some kv->as[i]?=some a->H a=some (.lst (IL kv.2))
 new:∀ a∈as,H0 a=none
theorem GrpAt.same{H0 H H':Hp}{g:List (Int × List Int)}{as:List Addr}(s:Same H H')(h:GrpAt H0 H g as):GrpAt H0 H' g as:=⟨h.len,h.nd,fun i kv a e1 e2=>s _ _ (h.at_ i kv a e1 e2),h.new⟩
theorem GrpAt.mem{H0 H:Hp}{g:List (Int × List Int)}{as:List Addr}(h:GrpAt H0 H g as){a:Addr}(ha:a∈as):∃ l,H a=some (.lst l):=by
 obtain⟨i,hi,e⟩:=Y2i ha;have hg:i<g.length:=by rw[<- h.len];exact hi
 exact⟨_,h.at_ i g[i] a (Yy0 hg) (by rw[Yy0 hi,e])⟩
theorem IsSet.all{m:Nat}{ns:List Int}(h:IsSet m ns):∀ z∈ns,0<=z/\z<(m:Int):=fun z hz=>by obtain⟨i,hi,e⟩:=Y2i hz;obtain⟨a,b,_⟩:=h i z (by rw[Yy0 hi,e]);exact⟨a,b⟩
theorem IsSet.nil(m:Nat):IsSet m []:=fun i z e=>by simp at e
theorem IsSet.up{m:Nat}{ns:List Int}(h:IsSet m ns):IsSet (m+1) ns:=fun i z e=>by obtain⟨a,b,c⟩:=h i z e;exact⟨a,by omega,c⟩
theorem IsSet.snoc{m:Nat}{ns:List Int}(h:IsSet m ns):IsSet (m+1) (ns++[(m:Int)]):=fun i z e=>by
 by_cases hi:i<ns.length
 ·rw[Yx hi]at e;obtain⟨a,b,c⟩:=h i z e;refine⟨a,by omega,fun y h0 ey=>?_⟩;rw[Yx (by omega)]at ey;exact c y h0 ey
 ·have hl:i=ns.length:=by
   have:=(Yy2.mp e).1
   rw[Yy8,YM]at this;omega
  subst hl;rw[Yy (Yy7 _),Y1e]at e;have e:(m:Int)=z:=Yc e
  subst e;refine⟨by omega,by omega,fun y h0 ey=>?_⟩;rw[Yx (by omega)]at ey;exact(h _ y ey).2.1
theorem IsSet.len{m:Nat}:∀ {ns:List Int},IsSet m ns->ns.length<=m:=fun {ns} h=>by
 have key:∀(i:Nat) (z:Int),ns[i]?=some z->(i:Int)<=z:=by
  intro i
  induction i with
  | zero=>intro z e;exact(h 0 z e).1
  | succ i ih =>
   intro z e;have hi:i<ns.length:=by have:=(Yy2.mp e).1;omega
   have e2:ns[i]?=some ns[i]:=Yy0 hi
   have:=ih _ e2
   have:=(h (i+1) z e).2.2 ns[i] (by omega) (by rw[Y2k];exact e2)
   omega
 by_cases h0:ns.length=0
 ·omega
 ·have e:ns[ns.length - 1]?=some (ns[ns.length - 1]'(by omega)):=Yy0 _;have a:=key _ _ e
  have b:=(h _ _ e).2.1;omega
end My
namespace L2
open PySem PySem.Spec PyProof.Rows
section
variable{X:Cx}
def ZH12(K:PySem.W.Frag):V->List V->Hp->VK->Prop:=fun x vs H Q=>∃(p:Addr) (ns:List Int) (z:Int) (j:Nat),x=.ref p/\vs=[.int z]/\SqL K H p (ns.map V.int)/\ns[j]?=some z/\(∀ i,i<j->ns[i]?≠some z)/\Q (.int j) H
theorem Zw7 (K:PySem.W.Frag) (h:X.K=K:=by rfl):MtM X "list.index" (ZH12 K):=by
 subst h;intro pins s σ H x vs v us Q I rx rv h;obtain⟨p,ns,z,j,rfl,rfl,hq,hj,hno,q⟩:=h;cases rx;obtain⟨u,rfl,t,rfl⟩:=rv.one;obtain⟨its,r,⟨o,n,e,hc,hd,hdat⟩,hz⟩:=I.list hq;have hl:its.length=ns.length:=by rw[<- r.length,Yb]
 have hjl:j<ns.length:=(Yy2.mp hj).1;have hsz:sizeLine=16777216:=Y0M
 rw[Yb]at hz;obtain⟨oc,od,odat,osl⟩:=o;have hc:oc=.type "list":=hc
 have hdat:odat=.seq its.toArray n:=hdat;subst hc hdat;have at_:∀(i:Nat) (hi:i<its.length),∃ tk,its[i]=.int (ns[i]'(by omega)) tk:=fun i hi=>by
  obtain⟨x,ex,rx⟩:=r.at hi;rw[Ym,Yy0 (by omega)]at ex;have ex:V.int (ns[i]'(by omega))=x:=Yc ex
  subst ex;exact rx
 refine Y2h F.slot_list_index ⟨_,e,rfl⟩ F.entry_list_index (F.args_list_index_2 _ _) (SeqAt.list_indexAt p its.toArray n od osl (.int z t) (fun y=>eqU (.int z) y) j (by rw[Ya];omega) (by omega) ?_ ?_) ⟨e,fun y hy=>?_,?_⟩
 ·obtain⟨tk,e1⟩:=at_ j (by omega);have e2:ns[j]'(by omega)=z:=by rw[Yy0 hjl]at hj;exact Yc hj
  have e3:its.toArray[j]'(by rw[Ya];omega)=.int z tk:=by rw[<- e2];simpa using e1
  rw[e3];simp[eqU,eqV]
 ·intro m hm hmj;have hm':m<its.length:=by rw[Ya]at hm;exact hm
  obtain⟨tk,e1⟩:=at_ m hm';have e3:its.toArray[m]'hm=.int (ns[m]'(by omega)) tk:=by simpa using e1
  rw[e3];have hne:=hno m hmj
  rw[Yy0 (by omega)]at hne;have hne':ns[m]'(by omega)≠z:=fun w=>hne (Yy04 some w)
  simp[eqU,eqV,hne']
 ·refine ZI1 (x:=.int z) ⟨t,rfl⟩ rfl r ?_ y (by simpa using hy);rw[List.all_map,Y0l];intro _ _;rfl
 ·exact⟨.int j,H,I.tok _,⟨_,rfl⟩,q⟩
end
end L2
namespace My
open PySem L2
section
variable{K:PySem.W.Frag}{H:Hp}{α:Type}[DecidableEq α]
def Bears(R:V->α->Prop)(xs:List V)(l:List α):Prop:=xs.length=l.length/\∀(i:Nat) (a:α),l[i]?=some a->∃ x,xs[i]?=some x/\R x a
theorem Bears.at{R:V->α->Prop}{xs:List V}{l:List α}(h:Bears R xs l){i:Nat}{x:V}(e:xs[i]?=some x):∃ a,l[i]?=some a/\R x a:=by
 have hi:i<xs.length:=(Yy2.mp e).1;have hl:i<l.length:=by rw[<- h.1];exact hi
 obtain⟨x',e1,q⟩:=h.2 i l[i] (Yy0 hl);rw[e]at e1;cases e1;exact⟨_,Yy0 hl,q⟩
theorem ZM8{l m:List α}(h:l.length=m.length):(List.range l.length).all (fun i=>decide (l[i]?=m[i]?))=decide (l=m):=by
 rw[Y0h,Y0l,YJ];constructor
 ·intro q;refine Y0H fun i=>?_;by_cases hi:i<l.length
  ·exact Yt (q i (YD.mpr hi))
  ·rw[QP (by omega),QP (by omega)]
 ·rintro rfl i _;simp
theorem Zz13{R:V->α->Prop}{n:Nat}{p q:Addr}{xs ys:List V}{l m:List α}(hp:SqL K H p xs)(hq:SqL K H q ys)(h1:Bears R xs l)(h2:Bears R ys m)(hR:∀ x y a b,R x a->R y b->EqD K H n x y (decide (a=b))):EqD K H (n+1) (.ref p) (.ref q) (decide (l=m)):=by
 by_cases hl:xs.length=ys.length
 ·have e:=ZM8 (l:=l) (m:=m) (by rw[<- h1.1,<- h2.1,hl]);rw[<- e,<- h1.1];refine EqD.lsts hp hq hl fun i x y ex ey=>?_;obtain⟨a,ea,ra⟩:=h1.at ex;obtain⟨b,eb,rb⟩:=h2.at ey;rw[ea,eb,show decide (some a=some b)=decide (a=b) by simp];exact hR x y a b ra rb
 ·have e:decide (l=m)=false:=YW fun z=>hl (by rw[h1.1,h2.1,z]);rw[e];exact EqD.lens hp hq hl
theorem ZE6{R:V->α->Prop}{n:Nat}{p q:Addr}{xs ys:List V}{l m:List α}(hp:SqT K H p xs)(hq:SqT K H q ys)(h1:Bears R xs l)(h2:Bears R ys m)(hR:∀ x y a b,R x a->R y b->EqD K H n x y (decide (a=b))):EqD K H (n+1) (.ref p) (.ref q) (decide (l=m)):=by
 have key:=EqD.tups (e:=fun i=>decide (l[i]?=m[i]?)) hp hq fun i x y ex ey=>by obtain⟨a,ea,ra⟩:=h1.at ex;obtain⟨b,eb,rb⟩:=h2.at ey;rw[ea,eb,show decide (some a=some b)=decide (a=b) by simp];exact hR x y a b ra rb
 by_cases hl:xs.length=ys.length
 ·have e:=ZM8 (l:=l) (m:=m) (by rw[<- h1.1,<- h2.1,hl]);rw[<- hl,Nat.min_self,h1.1,e,show(l.length == l.length)=true by simp,Y3d]at key;exact key
 ·have e:decide (l=m)=false:=YW fun z=>hl (by rw[h1.1,h2.1,z]);rw[show(xs.length == ys.length)=false by simpa using hl,Bool.and_false]at key;rw[e];exact key
theorem Zo1(ns:List Int):Bears (fun x (z:Int)=>x=.int z) (IL ns) ns:=⟨Zz4 ns,fun i z e=>⟨_,Za3 e,rfl⟩⟩
theorem Yz3{n:Nat}{x y:V}{a b:Int}(hx:x=.int a)(hy:y=.int b):EqD K H n x y (decide (a=b)):=by
 subst hx hy;have e:decide (a=b)=eqV (.int a) (.int b):=by show decide (a=b)=(a == b);rw[Bool.beq_eq_decide_eq]
 rw[e];exact EqD.flat rfl rfl
theorem Zz010{p q:Addr}{ns ms:List Int}(hp:SqL K H p (IL ns))(hq:SqL K H q (IL ms)):EqD K H 1 (.ref p) (.ref q) (decide (ns=ms)) :=
 Zz13 hp hq (Zo1 ns) (Zo1 ms) fun _ _ _ _=>Yz3
theorem Zi1{p q:Addr}{ns ms:List Int}(hp:SqT K H p (IL ns))(hq:SqT K H q (IL ms)):EqD K H 1 (.ref p) (.ref q) (decide (ns=ms)) :=
 ZE6 hp hq (Zo1 ns) (Zo1 ms) fun _ _ _ _=>Yz3
theorem ZB2{xs:List V}{ps:List (Int × Int)}(h:PairsV H xs ps):Bears (PairV H) xs ps:=h
theorem ZZ9{n:Nat}{x y:V}{a b:Int × Int}(hx:PairV H x a)(hy:PairV H y b):EqD K H (n+1) x y (decide (a=b)):=by
 obtain⟨t,rfl,ht⟩:=hx;obtain⟨u,rfl,hu⟩:=hy;have be:∀ c:Int × Int,Bears (fun x (z:Int)=>x=.int z) ([.int c.1,.int c.2]:List V) [c.1,c.2]:=fun c=>Zo1 [c.1,c.2]
 have k:=ZE6 (n:=n) (SqT.of ht) (SqT.of hu) (be a) (be b) fun _ _ _ _=>Yz3 (K:=K) (H:=H);have e:decide ([a.1,a.2]=[b.1,b.2])=decide (a=b):=by obtain⟨a1,a2⟩:=a;obtain⟨b1,b2⟩:=b;simp
 rw[e]at k;exact k
theorem ZR7{p q:Addr}{xs ys:List V}{ps qs:List (Int × Int)}(hp:SqL K H p xs)(hq:SqL K H q ys)(h1:PairsV H xs ps)(h2:PairsV H ys qs):EqD K H 2 (.ref p) (.ref q) (decide (ps=qs)) :=
 Zz13 hp hq (ZB2 h1) (ZB2 h2) fun _ _ _ _=>ZZ9
def Zz97(H:Hp)(v:V)(l:List Int):Prop:=∃ a,v=.ref a/\H a=some (.lst (IL l))
end
end My
namespace My
def fstB(M:List Int)(p:Nat):Bool:=(List.range p).all fun i=>decide (mk M i≠mk M p)
def posA(M:List Int)(k:Int)(i:Nat):List Int:=((List.range i).filter fun j=>decide (mk M j=k)).map fun(j:Nat)=>(j:Int)
def fstA(M:List Int)(i:Nat):List Nat:=(List.range i).filter (fstB M)
theorem fstB_iff{M:List Int}{p:Nat}:fstB M p=true↔∀ i,i<p->mk M i≠mk M p:=by
 unfold fstB;rw[Y0l];constructor
 ·intro h i hi;exact Yt (h i (YD.mpr hi))
 ·intro h i hi;exact Yl (h i (YD.mp hi))
theorem ZJ2(M:List Int)(k:Int)(i:Nat):posA M k (i+1)=posA M k i++(if mk M i=k then [(i:Int)] else []):=by
 unfold posA;rw[Y0W,Yy02,YE];congr 1;by_cases h:mk M i=k
 ·rw[if_pos h,Yy07,if_pos (by simpa using h)];rfl
 ·rw[if_neg h,Yy07,if_neg (by simpa using h)];rfl
theorem ZC4(M:List Int)(i:Nat):fstA M (i+1)=fstA M i++(if fstB M i=true then [i] else []):=by
 unfold fstA;rw[Y0W,Yy02];congr 1;by_cases h:fstB M i=true
 ·rw[if_pos h,Yy07,if_pos h];rfl
 ·rw[if_neg h,Yy07,if_neg h];rfl
theorem Zv8(M:List Int):∀ i,grpA M i=(fstA M i).map fun p=>(mk M p,posA M (mk M p) i)
 | 0=>rfl
 | i+1=>by
  have ih:=Zv8 M i;show ZW3 (grpA M i) (i:Int) (mk M i)=_
  have hk:(mk M i∈(grpA M i).map (·.1))↔fstB M i≠true:=by
   constructor
   ·intro h q;obtain⟨j,hj,e⟩:=Zr1 M i _ h;exact fstB_iff.mp q j hj e
   ·intro h;by_cases q:∃ j,j<i/\mk M j=mk M i
    ·obtain⟨j,hj,e⟩:=q;rw[<- e];exact grpA_key hj
    ·exact absurd (fstB_iff.mpr fun j hj e=>q ⟨j,hj,e⟩) h
  unfold ZW3;by_cases h:mk M i∈(grpA M i).map (·.1)
  ·have hf:=hk.mp h;rw[if_pos h,ZC4,if_neg hf,YS,ih,Y1B];refine YL fun p _=>?_;show(if mk M p=mk M i then (mk M p,posA M (mk M p) i++[(i:Int)]) else (mk M p,posA M (mk M p) i))=(mk M p,posA M (mk M p) (i+1))
   rw[ZJ2];by_cases e:mk M p=mk M i
   ·rw[if_pos e,if_pos e.symm]
   ·rw[if_neg e,if_neg (fun z=>e z.symm),YS]
  ·have hf:fstB M i=true:=by
    cases q:fstB M i with
    | true=>rfl
    | false=>exact absurd (hk.mpr (by rw[q];exact Ys)) h
   rw[if_neg h,ZC4,if_pos hf,YE,ih];congr 1
   ·refine YL fun p hp=>?_;have hpi:p<i:=YD.mp (Yi.mp hp).1
    rw[ZJ2,if_neg (fun z=>fstB_iff.mp hf p hpi z.symm),YS]
   ·show [(mk M i,[(i:Int)])]=[(mk M i,posA M (mk M i) (i+1))];rw[ZJ2,if_pos rfl];have e0:posA M (mk M i) i=[]:=by unfold posA;rw[Yy24.mpr fun j hj=>by simpa using fstB_iff.mp hf j (YD.mp hj)];rfl
    rw[e0];rfl
end My
namespace My
open PySem L2
theorem Bears.snoc{α:Type}[DecidableEq α]{R:V->α->Prop}{xs:List V}{l:List α}{x:V}{a:α}(h:Bears R xs l)(hx:R x a):Bears R (xs++[x]) (l++[a]):=by
 refine⟨by rw[Yy8,Yy8,h.1];rfl,fun i b e=>?_⟩;by_cases hi:i<l.length
 ·rw[Yx hi]at e;rw[Yx (by rw[h.1];exact hi)];exact h.2 i b e
 ·have hl:i=l.length:=by
   have:=(Yy2.mp e).1
   rw[Yy8,YM]at this;omega
  subst hl;rw[Yy (Yy7 _),Y1e]at e;rw[Yy (by rw[h.1];exact Yy7 _),h.1,Y1e];have e':a=b:=Yc e
  subst e';exact⟨x,rfl,hx⟩
theorem Bears.imp{α:Type}[DecidableEq α]{R R':V->α->Prop}{xs:List V}{l:List α}(h:Bears R xs l)(f:∀ x a,R x a->R' x a):Bears R' xs l:=⟨h.1,fun i a e=>let ⟨x,e1,r⟩:=h.2 i a e;⟨x,e1,f x a r⟩⟩
end My
namespace L2
open PySem PySem.Spec PyProof.Rows
structure Fly (h0:Heap) (H:Hp) (e C:Addr) (h:Heap):Prop where
 ex:∃ oe vs T oT ts a0,h.get? e=some oe/\oe.cls=.ref C/\oe.data=.fields vs/\vs[0]?=some a0/\vs[1]?=some (.ref T)/\T≠e/\h.get? T=some oT/\oT.data=.fields ts/\ts[3]?=some .none/\h0.get? T=none/\H T=none
 new:h0.get? e=none
 free:H e=none
section
variable{X:Cx}
abbrev grd(X:Cx)(h:Heap)(ns:List Addr):Heap:=PySem.W.hideAll h (frs X.stack++ns)
end
structure XCls (K:PySem.W.Frag) (C:Addr):Prop where
 ex:PySem.W.excIn K C [.type "ValueError",.type "Exception",.type "BaseException",.type "object"] "ValueError.__new__"=true
 ga:PySem.W.findIn K (.ref C) "__getattribute__"=some (some (.builtin "BaseException.__getattribute__"))
 gh:PySem.W.findIn K (.ref C) "__getattr__"=some none
 cl:PySem.W.findIn K (.ref C) "__class__"=some (some (.builtin "object.__class__"))
 ob:PySem.W.mroIn K C (.type "object")=some true
 bx:PySem.W.mroIn K C (.type "BaseException")=some true
theorem Zc1:∀ {us:List Value} {ns:List Int},IntsAre us ns->Vals (ns.map V.int) us
 | [],[],_=>.nil
 | _ :: _,[],h=>by cases h
 | [],_ :: _,h=>by cases h
 | u :: us,n :: ns,h=>by
  cases h with
  | cons _ _ t=>exact .cons ⟨_,rfl⟩ (Zc1 t)
section
variable{X:Cx}
theorem Zz64 (K:PySem.W.Frag) (hk:X.K=K:=by rfl):Zb3 X (.builtin "sorted") (fun xs H Q=>∃(p:Addr) (ns:List Int),xs=[.ref p]/\SqL K H p (ns.map V.int)/\ns.length<64 /\
  ∀ ms:List Int,ms.Perm ns->ms.Pairwise (·<=·)->∀ l,H l=none->Q (.ref l) (upd H l (.lst (ms.map V.int)))):=by
 subst hk;intro pins s σ H xs us Q I r h;obtain⟨p,ns,rfl,hq,hn,q⟩:=h;obtain⟨u,rfl,ru⟩:=Zz75 r;obtain rfl:u=Value.ref p:=ru;obtain⟨its,rv,pl,hz⟩:=I.list hq;have hi:=ZI rv
 have hl:its.length=ns.length:=by rw[<- rv.length,Yb]
 refine sorted_ints pl.isList hi (by omega) fun out ms h1 h2 h3=>?_;obtain⟨e,he⟩:=sortedAll_at s.heap its out;have hml:ms.length=ns.length:=h2.length_eq
 refine⟨.ref (s.heap.objs.size+1),_,I.laid (t':=s.toks) (o:=.lst (ms.map V.int)) (fun b o g=>sortedAll_old g) (Y0P _) ⟨?_,out.toList,e,Zc1 h1,?_⟩,rfl,q ms h2 h3 _ (I.hok.fresh (Y0P _))⟩
 ·rw[Yb,hml]
  have:sizeLine=16777216:=Y0M
  omega
 ·exact he
end
end L2
namespace My
open PySem L2
theorem isSet_iff{m:Nat}{ns:List Int}:IsSet m ns↔(∀ z∈ns,0<=z/\z<(m:Int))/\ns.Pairwise (· < ·):=by
 constructor
 ·intro h;refine⟨h.all,?_⟩;rw[Yy00];intro i j hi hj hij
  induction j with
  | zero=>exact absurd hij (Yy08 i)
  | succ j ih =>
   have hj':j<ns.length:=by omega
   have key:=(h (j+1) ns[j+1] (Yy0 hj)).2.2 ns[j] (by omega) (by rw[Y2k];exact Yy0 hj');by_cases e:i=j
   ·subst e;exact key
   ·have:=ih hj' (by omega)
    omega
 ·rintro⟨ha,hp⟩ i z hz;obtain⟨hi,ei⟩:=Yy2.mp hz;have hm:=ha z (Yy6 hz)
  refine⟨hm.1,hm.2,fun y h0 hy=>?_⟩;obtain⟨hi',ei'⟩:=Yy2.mp hy
  have:=Yy00.mp hp (i - 1) i hi' hi (by omega)
  rw[ei,ei']at this;exact this
theorem Zn1{ns:List Int}(h:ns.Pairwise (· < ·)):ns.Nodup:=h.imp fun hab e=>by omega
theorem IsSet.nodup{m:Nat}{ns:List Int}(h:IsSet m ns):ns.Nodup:=Zn1 (isSet_iff.mp h).2
end My
namespace My
theorem Zz51{α:Type}{P:List α->Prop}(h0:P [])(h1:∀ l x,P l->P (l++[x])):∀ l,P l:=by
 intro l;rw[<- List.reverse_reverse l]
 induction l.reverse with
 | nil=>exact h0
 | cons x r ih =>
  rw[List.reverse_cons];exact h1 _ _ ih
inductive Conn (es:List (Nat × Nat)):Nat->Nat->Prop
 | refl (i:Nat):Conn es i i
 | edge {a b:Nat} (h:(a,b)∈es):Conn es a b
 | symm {i j:Nat}:Conn es i j->Conn es j i
 | trans {i j k:Nat}:Conn es i j->Conn es j k->Conn es i k
theorem Conn.mono{es fs:List (Nat × Nat)}(h:∀ e∈es,e∈fs){i j:Nat}(c:Conn es i j):Conn fs i j:=by
 induction c with
 | refl i=>exact .refl i
 | edge q=>exact .edge (h _ q)
 | symm _ ih=>exact .symm ih
 | trans _ _ i1 i2=>exact .trans i1 i2
theorem ZH1{n i:Nat}(h:i<n):mk ((List.range n).map fun(i:Nat)=>(i:Int)) i=(i:Int):=by rw[mk_map' h]
where
 mk_map' {n i:Nat} (h:i<n):mk ((List.range n).map fun(i:Nat)=>(i:Int)) i=(i:Int):=by simp[mk,Yy3,Ym,Y0k h]
def InN(n:Nat)(es:List (Nat × Nat)):Prop:=∀ e∈es,e.1<n/\e.2<n
theorem InN.snoc{n:Nat}{es:List (Nat × Nat)}{e:Nat × Nat}(h:InN n (es++[e])):InN n es/\e.1<n/\e.2<n:=⟨fun x hx=>h x (Yk _ hx),h e (by simp)⟩
theorem ZD9{n:Nat}:∀ es:List (Nat × Nat),InN n es->∀ e∈es,mk (lms n es) e.1=mk (lms n es) e.2:=by
 refine Zz51 (fun _ e h=>by cases h) fun es x ih hn e he=>?_;obtain⟨h1,h2,h3⟩:=hn.snoc;have hl:=ZD n es
 have hx:=hn e he;rw[Zg1];refine(Zh6 (by omega) (by omega)).mpr ?_;rcases Yy9.mp he with q | q
 ·exact .inl (ih h1 e q)
 ·rw[Yy1.mp q];exact .inr ⟨.inl rfl,.inr rfl⟩
theorem ZE9{n:Nat}:∀ es:List (Nat × Nat),InN n es->∀ i j,i<n->j<n->mk (lms n es) i=mk (lms n es) j->Conn es i j:=by
 refine Zz51 (fun _ i j hi hj h=>?_) fun es x ih hn i j hi hj h=>?_
 ·have h:mk ((List.range n).map fun(i:Nat)=>(i:Int)) i=mk ((List.range n).map fun(i:Nat)=>(i:Int)) j:=h;rw[ZH1 hi,ZH1 hj]at h
  have:i=j:=by omega
  subst this;exact .refl i
 ·obtain⟨h1,h2,h3⟩:=hn.snoc;have hl:=ZD n es
  have up:∀ {i j:Nat},Conn es i j->Conn (es++[x]) i j:=fun c=>c.mono fun e he=>Yk _ he;have ex:Conn (es++[x]) x.1 x.2:=.edge (by simp)
  rw[Zg1]at h;rcases(Zh6 (by omega) (by omega)).mp h with q | ⟨q1,q2⟩
  ·exact up (ih h1 i j hi hj q)
  ·have ci:Conn (es++[x]) i x.1:=by
    rcases q1 with q | q
    ·exact up (ih h1 i _ hi h2 q)
    ·exact(up (ih h1 i _ hi h3 q)).trans ex.symm
   have cj:Conn (es++[x]) j x.1:=by
    rcases q2 with q | q
    ·exact up (ih h1 j _ hj h2 q)
    ·exact(up (ih h1 j _ hj h3 q)).trans ex.symm
   exact ci.trans cj.symm
theorem Zd10{n:Nat}{es:List (Nat × Nat)}(hn:InN n es){i j:Nat}(c:Conn es i j):i=j\/(i<n/\j<n/\mk (lms n es) i=mk (lms n es) j):=by
 induction c with
 | refl i=>exact .inl rfl
 | edge q=>exact .inr ⟨(hn _ q).1,(hn _ q).2,ZD9 es hn _ q⟩
 | symm _ ih =>
  rcases ih with e | ⟨a,b,c⟩
  ·exact .inl e.symm
  ·exact .inr ⟨b,a,c.symm⟩
 | trans _ _ i1 i2 =>
  rcases i1 with e | ⟨a,b,c⟩
  ·rw[e];exact i2
  ·rcases i2 with e | ⟨a',b',c'⟩
   ·rw[<- e];exact .inr ⟨a,b,c⟩
   ·exact .inr ⟨a,b',c.trans c'⟩
theorem ZQ{n:Nat}{es:List (Nat × Nat)}(hn:InN n es){i j:Nat}(hi:i<n)(hj:j<n):mk (lms n es) i=mk (lms n es) j↔Conn es i j:=by
 constructor
 ·exact ZE9 es hn i j hi hj
 ·intro c;rcases Zd10 hn c with e | ⟨_,_,e⟩
  ·rw[e]
  ·exact e
theorem Zw2{n:Nat}{es:List (Nat × Nat)}(hn:InN n es){i j:Nat}(hi:i<n)(hj:j<n):mk (pms n es) i=mk (pms n es) j↔Conn es i j:=by
 rw[<- ZQ hn hi hj];have s:=ZI2 (n:=n) (es:=es) hn
 exact s.2 i j (by rw[Zi];exact hi) (by rw[Zi];exact hj)
def cnt(M:List Int):Nat:=(fstA M M.length).length
theorem ZN7(M:List Int){i:Nat}:∃ p,p<=i/\mk M p=mk M i/\fstB M p=true:=by
 induction i using Nat.strongRecOn with
 | ind i ih =>
  by_cases h:fstB M i=true
  ·exact⟨i,Yy7 _,rfl,h⟩
  ·have:∃ j,j<i/\mk M j=mk M i:=by
    by_cases q:∃ j,j<i/\mk M j=mk M i
    ·exact q
    ·exact absurd (fstB_iff.mpr fun j hj e=>q ⟨j,hj,e⟩) h
   obtain⟨j,hj,e⟩:=this;obtain⟨p,h1,h2,h3⟩:=ih j hj;exact⟨p,by omega,h2.trans e,h3⟩
theorem ZT6{p q:Nat->Bool}{x n:Nat}(hx:x<n)(hpx:p x=true)(h:∀ y,y<n->q y=(p y && !decide (y=x))):((List.range n).filter q).length+1=((List.range n).filter p).length:=by
 induction n with
 | zero=>exact absurd hx (Yy08 x)
 | succ n ih =>
  rw[Y0W,Yy02,Yy02,Yy8,Yy8];by_cases e:x=n
  ·subst e;have e1:(List.range x).filter q=(List.range x).filter p:=Y1b fun y hy=>by have hy:=YD.mp hy;rw[h y (by omega),show decide (y=x)=false from YW (by omega)];simp
   have e2:q x=false:=by rw[h x (by omega)];simp
   rw[e1];simp[Yy07,e2,hpx]
  ·have hq:q n=p n:=by rw[h n (by omega),show decide (n=x)=false from YW (fun z=>e z.symm)];simp
   have:=ih (by omega) fun y hy=>h y (by omega)
   simp only [Yy07,Yy18,hq];omega
theorem ZY2{M:List Int}{p q:Nat}(hp:fstB M p=true)(hq:fstB M q=true)(e:mk M p=mk M q):p=q:=by
 rcases Nat.lt_trichotomy p q with h | h | h
 ·exact absurd e (fstB_iff.mp hq p h)
 ·exact h
 ·exact absurd e.symm (fstB_iff.mp hp q h)
theorem Zz23{m:List Int}{a b:Nat}(ha:a<m.length)(hb:b<m.length)(hne:mk m a≠mk m b):cnt (lm m a b)+1=cnt m:=by
 obtain⟨A,hA1,hA2,hA3⟩:=ZN7 m (i:=a);obtain⟨B,hB1,hB2,hB3⟩:=ZN7 m (i:=b);have hAB:A≠B:=fun e=>hne (by rw[<- hA2,<- hB2,e])
 unfold cnt fstA;rw[ZX1];refine ZT6 (x:=max A B) (by omega) ?_ fun y hy=>?_
 ·rcases Nat.le_total A B with h | h
  ·rw[Nat.max_eq_right h];exact hB3
  ·rw[Nat.max_eq_left h];exact hA3
 ·rw[Y0h,Y0t,fstB_iff,fstB_iff];have key:∀ i,i<y->(mk (lm m a b) i=mk (lm m a b) y↔Mrg m a b i y):=fun i hi=>Zh6 (by omega) hy
  have nmax:(!decide (y=max A B))=true↔y≠max A B:=by simp
  rw[nmax];constructor
  ·intro q;refine⟨fun i hi e=>q i hi ((key i hi).mpr (.inl e)),fun e=>?_⟩;rcases Nat.lt_or_gt_of_ne hAB with h | h
   ·have ey:y=B:=by omega
    subst ey;exact q A h ((key A h).mpr (.inr ⟨.inl hA2,.inr hB2⟩))
   ·have ey:y=A:=by omega
    subst ey;exact q B h ((key B h).mpr (.inr ⟨.inr hB2,.inl hA2⟩))
  ·rintro⟨q1,q2⟩ i hi e;rcases(key i hi).mp e with e | ⟨e1,e2⟩
   ·exact q1 i hi e
   ·have fy:fstB m y=true:=fstB_iff.mpr q1;rcases e2 with e2 | e2
    ·have ey:y=A:=ZY2 fy hA3 (e2.trans hA2.symm);rcases e1 with e1 | e1
     ·exact q1 i hi (e1.trans e2.symm)
     ·obtain⟨p,p1,p2,p3⟩:=ZN7 m (i:=i)
      have:p=B:=ZY2 p3 hB3 (by rw[p2,e1,hB2])
      omega
    ·have ey:y=B:=ZY2 fy hB3 (e2.trans hB2.symm);rcases e1 with e1 | e1
     ·obtain⟨p,p1,p2,p3⟩:=ZN7 m (i:=i)
      have:p=A:=ZY2 p3 hA3 (by rw[p2,e1,hA2])
      omega
     ·exact q1 i hi (e1.trans e2.symm)
theorem Zz33(n:Nat):cnt ((List.range n).map fun(i:Nat)=>(i:Int))=n:=by
 unfold cnt fstA;rw[Yb,YX];have e:(List.range n).filter (fstB ((List.range n).map fun(i:Nat)=>(i:Int)))=List.range n:=by
  refine Y0Y.mpr fun p hp=>fstB_iff.mpr fun i hi e=>?_;have hp:=YD.mp hp
  rw[ZH1 (by omega),ZH1 hp]at e;omega
 rw[e,YX]
theorem Zz412{M:List Int}(hM:1<=M.length):cnt M=1↔∀ i j,i<M.length->j<M.length->mk M i=mk M j:=by
 have e:cnt M=(grp M).length:=by unfold cnt grp;rw[Zv8,Yb]
 rw[e];exact Zu8 hM
end My
namespace My
open PySem L2
theorem ZA12{i:Int}{n:Nat}(h0:0<=i)(h1:i<(n:Int)):seqIndex? i n=some i.toNat:=by have e:(if i<0 then i+(n:Int) else i)=i:=if_neg (by omega);unfold seqIndex?;simp only [e];rw[if_pos (by simp;omega)]
def Zd(n:Int)(ps:List (Int × Int))(ns:List Int):Prop:=IsSet ps.length ns/\(ns.length:Int)=n - 1/\∀ i j,i<n.toNat->j<n.toNat->Conn (Zz8 ps ns) i j
theorem ZK{n:Int}{ps:List (Int × Int)}{ns:List Int}(g:Zu n ps)(h:∀ z∈ns,0<=z/\z<(ps.length:Int)):InN n.toNat (Zz8 ps ns):=fun e he=>by
 obtain⟨z,hz,rfl⟩:=Yr.mp he;obtain⟨z0,z1⟩:=h z hz;have hp:ps[z.toNat]?=some (ps[z.toNat]'(by omega)):=Yy0 _
 rw[getD_of hp];obtain⟨b1,b2,b3,b4⟩:=g.2.2.2 _ (Yy6 hp);exact⟨by omega,by omega⟩
theorem Zx{ps:List (Int × Int)}{ns ms:List Int}(h:∀ z∈ns,z∈ms):∀ e∈Zz8 ps ns,e∈Zz8 ps ms:=fun e he=>by obtain⟨z,hz,rfl⟩:=Yr.mp he;exact Yr.mpr ⟨z,h z hz,rfl⟩
theorem Zz36{n:Nat}{es:List (Nat × Nat)}(h:InN n es):(∀ i j,i<(lms n es).length->j<(lms n es).length->mk (lms n es) i=mk (lms n es) j)↔∀ i j,i<n->j<n->Conn es i j:=by
 rw[ZD];constructor
 ·intro q i j hi hj;exact(ZQ h hi hj).mp (q i j hi hj)
 ·intro q i j hi hj;exact(ZQ h hi hj).mpr (q i j hi hj)
theorem Zq6{n:Nat}{es:List (Nat × Nat)}(hn:1<=n)(h:InN n es):(grp (pms n es)).length=1↔∀ i j,i<n->j<n->Conn es i j:=by rw[Zu8 (by rw[Zi];exact hn),(ZI2 h).one];exact Zz36 h
theorem ZX{ps:List (Int × Int)}{ns ms:List Int}(h:∀ z,z∈ns↔z∈ms){i j:Nat}:Conn (Zz8 ps ns) i j↔Conn (Zz8 ps ms) i j :=
 ⟨fun c=>c.mono (Zx fun z hz=>(h z).mp hz),fun c=>c.mono (Zx fun z hz=>(h z).mpr hz)⟩
section
variable{K:PySem.W.Frag}{a:Addr}{xs:List V}{g:TG}{tt:TT}{te:TE}{o:Nat}{fr:List Nat}{σ:St}{H:Hp}{Q:VK}
theorem Zr4(Pv:Nat->List V->Hp->Prop)(h0:Pv 0 [] H)(hz:xs.length<sizeLine)(hl:∀ i ys H,i<=xs.length->Pv i ys H->SqL K H a xs/\ys.length<=i)
  (hs:∀(i:Nat) x ys H (p:Addr),H p=none->xs[i]?=some x->Pv i ys H->Zr5 Pv g tt te o fr σ i (.ref p) ys (upd H p (.tup [.int i,x]))) (hd:∀ ys H,Pv xs.length ys H->∀ p,H p=none->Q (.ref p) (upd H p (.lst ys))):LcR (Ite K a) g tt te o fr σ H Q:=by
 refine⟨fun i m ys H=>m=xs.length - i/\i<=xs.length/\Pv i ys H,⟨xs.length,by simp,Yj _,h0⟩,?_⟩;rintro i m ys H ⟨rfl,hi,p⟩;obtain⟨q,hy⟩:=hl i ys H hi p;by_cases hlt:i<xs.length
 ·refine .inr ⟨⟨xs,xs[i],q,by simp[hlt]⟩,by omega,fun x H' ⟨T,y,hT,ex,eH,hyy⟩=>?_⟩;subst ex eH;exact hs i y ys H T hT (hyy xs q) p (fun j ys H=>∃ m',m'<xs.length - i/\m'=xs.length - j/\j<=xs.length/\Pv j ys H) fun ys H p'=>⟨xs.length - (i+1),by omega,rfl,hlt,p'⟩
 ·have e:i=xs.length:=by omega
  subst e;exact .inl ⟨⟨xs,q,Yy7 _⟩,by omega,hd ys H p⟩
end
def unlike(M:List Int)(ps:List (Int × Int))(i:Nat):List Int:=((List.range i).filter fun k=>decide (mk M (ps.getD k (0,0)).1.toNat≠mk M (ps.getD k (0,0)).2.toNat)).map fun(k:Nat)=>(k:Int)
theorem Zt2(M:List Int)(ps:List (Int × Int))(i:Nat):unlike M ps (i+1)=unlike M ps i++(if mk M (ps.getD i (0,0)).1.toNat≠mk M (ps.getD i (0,0)).2.toNat then [(i:Int)] else []):=by
 unfold unlike;rw[Y0W,Yy02,YE];congr 1;by_cases h:mk M (ps.getD i (0,0)).1.toNat≠mk M (ps.getD i (0,0)).2.toNat
 ·rw[if_pos h,Yy07,if_pos (Yl h)];rfl
 ·rw[if_neg h,Yy07,if_neg (by simpa using h)];rfl
theorem Zz32(M:List Int)(ps:List (Int × Int))(i:Nat):(unlike M ps i).length<=i:=by unfold unlike;rw[Yb];exact YF (Y0a _ _) (by simp)
def wo(ns:List Int)(z:Int):List Int:=ns.filter fun y=>decide (y≠z)
theorem wo_mem{ns:List Int}{z y:Int}:y∈wo ns z↔y∈ns/\y≠z:=by unfold wo;rw[Yi];simp
theorem ZO8(ns:List Int)(z:Int):(wo ns z).length<=ns.length:=Y0a _ _
theorem Zz22{ns:List Int}{i:Nat}{y z:Int}(h:ns[i]?=some y):wo (ns.take (i+1)) z=wo (ns.take i) z++(if y≠z then [y] else []):=by
 unfold wo;rw[YO,h,Yy02];congr 1;by_cases e:y≠z
 ·rw[if_pos e];show List.filter _ [y]=_;rw[Yy07,if_pos (Yl e)];rfl
 ·rw[if_neg e];show List.filter _ [y]=_;rw[Yy07,if_neg (by simpa using e)];rfl
theorem Zz85{n:Int}{ps:List (Int × Int)}{M L:List Int}(g:Zu n ps)(hM:M.length=n.toNat)(s:SameP M L):unlike M ps ps.length=unlike L ps ps.length:=by
 unfold unlike;congr 1;refine Y1b fun k hk=>?_;have hk:=YD.mp hk
 have hp:ps[k]?=some ps[k]:=Yy0 hk;rw[getD_of hp];obtain⟨b1,b2,b3,b4⟩:=g.2.2.2 _ (Yy6 hp)
 have:=s.2 ps[k].1.toNat ps[k].2.toNat (by omega) (by omega)
 rw[Y0h,YJ,YJ];exact not_congr this
def ZV10(n:Int)(ps:List (Int × Int))(ns:List Int)(z:Int)(l:List Int):List Int:=l.filter fun y=>decide (z∈unlike (lms n.toNat (Zz8 ps (wo ns y))) ps ps.length)
theorem Zw5{M:List Int}{ps:List (Int × Int)}{z:Int}(h0:0<=z)(h1:z<(ps.length:Int)):z∈unlike M ps ps.length↔mk M (ps.getD z.toNat (0,0)).1.toNat≠mk M (ps.getD z.toNat (0,0)).2.toNat:=by
 unfold unlike;rw[Yr];constructor
 ·rintro⟨k,hk,rfl⟩
  have:=Yt (Yi.mp hk).2
  rw[Yw];exact this
 ·intro h;exact⟨z.toNat,Yi.mpr ⟨YD.mpr (by omega),Yl h⟩,by omega⟩
theorem Za5{a b:List Int}(h:a.Perm b)(h1:a.Pairwise (·<=·))(h2:b.Pairwise (·<=·)):a=b:=by
 induction a generalizing b with
 | nil=>exact(List.Perm.nil_eq h)
 | cons x a ih =>
  cases b with
  | nil=>exact absurd h.length_eq (by simp)
  | cons y b =>
   obtain⟨hx,ha⟩:=Yy01.mp h1;obtain⟨hy,hb⟩:=Yy01.mp h2;have e:x=y:=by
    have m1:y∈x :: a:=h.mem_iff.mpr Ye;have m2:x∈y :: b:=h.mem_iff.mp Ye
    rcases Yh.mp m1 with e1 | e1
    ·exact e1.symm
    ·rcases Yh.mp m2 with e2 | e2
     ·exact e2
     ·have:=hx y e1;have:=hy x e2;omega
   subst e;rw[ih (List.Perm.cons_inv h) ha hb]
end My
namespace L2
open PySem PySem.Spec PyProof.Rows
section
variable{prog:Program}{w:World}{A:Around}{E:Value->Shared->Prop}{s:Shared}
theorem Zm5 {tp:Addr} {vs:List Value} {Q:List Value->Shared->Prop} {ot:Obj} {m:Nat} (ht:s.heap.get? tp=some ot) (hc:ot.cls=.type "tuple") (hd:ot.data=.seq vs.toArray m) (hz:vs.length<=sizeLine)
  (k:Q vs { s with heap:=(s.heap.push (seqObj "list" #[] 0)).update s.heap.objs.size (Obj.mapSeq (·++vs.toArray)) }):wpAny (model prog w) A (collect (.ref tp)) Q E s:=by
 have ht1:(s.heap.push (seqObj "list" #[] 0)).get? tp=some ot:=Yy5 _ ht;have hL1:(s.heap.push (seqObj "list" #[] 0)).get? s.heap.objs.size=some (seqObj "list" #[] 0):=Yo _ rfl
 unfold collect;refine Yy4 (Y2D (Y0c Yy33 ?_));show wpAny _ _ (do again (.builtin "list.__iadd__" ⟨[<- newList [],.ref tp],[]⟩)) _ _ s
 refine Yy4 (Y1T (Yn ⟨Yy26 _ (by decide +kernel),Y0c entry_list_iadd' ?_⟩));show wpAny _ _ (Builtin.List.listExtendWith (.ref s.heap.objs.size) (.ref tp) (.ref s.heap.objs.size)) _ _ { s with heap:=s.heap.push (seqObj "list" #[] 0) }
 unfold Builtin.List.listExtendWith;refine Yy4 (Yy36 (T:="tuple") ⟨ot,ht1,hc⟩ ?_);rw [if_pos (by rw [show(Value.type "tuple" == Value.type "tuple")=true from rfl];simp)];refine Yy4 (listItems_at ht1 hd ?_);refine Yy4 (listItems_at (xs:=#[]) (n:=0) hL1 rfl ?_);rw[if_neg (by simp)];refine Yy4 (Y1L (xs:=#[]) (n:=0) hL1 rfl ?_ (Yj _) (by show(#[]++vs.toArray).size<=sizeLine+1;simp only [Array.size_append,Ya,Yy17];omega));refine Yn ?_;refine Yy4 (Yy37 (Y2Y hL1 _) ?_);show wpAny _ _ (pure ((#[]:Array Value)++vs.toArray).toList) Q E _
 rw[show((#[]:Array Value)++vs.toArray).toList=vs by simp];exact Yn k
end
section
variable{X:Cx}
def ZZ10(K:PySem.W.Frag):R2:=fun x y H Q=>∃ a b xs ys,x=.ref a/\y=.ref b/\SqT K H a xs/\SqT K H b ys/\xs.length+ys.length<=sizeLine /\
 (xs=[]->Q (.ref b) H)/\(xs≠[]->ys=[]->Q (.ref a) H)/\(xs≠[]->ys≠[]->∀ p,H p=none->Q (.ref p) (upd H p (.tup (xs++ys))))
theorem Yz2(K:PySem.W.Frag)(hk:X.K=K:=by rfl):OpR X (binaryOp .Add) (ZZ10 K):=by
 intro pins s σ H x y v u Q I rx ry h;obtain⟨a,b,xs,ys,e1,e2,ha,hb,hz,q0,q1,q2⟩:=id h;by_cases hx:xs=[]
 ·subst hk e1 e2;cases rx;cases ry;obtain⟨its,r1,p1,_⟩:=I.tuple ha;obtain⟨its2,r2,p2,_⟩:=I.tuple hb;have hi:its=[]:=r1.nil_iff.mpr hx
  obtain⟨⟨cls,dd,data,sl⟩,ho,hc,n,hd⟩:=id p1;obtain⟨⟨cls2,dd2,data2,sl2⟩,ho2,hc2,n2,hd2⟩:=id p2;simp only at hc hd hc2 hd2;subst hc hd hc2 hd2;exact concat_meets ⟨_,ho,rfl⟩ ⟨_,ho2,rfl⟩ Yy39 seq_tuple_add Y1Z Y1W (Y1O _ _)
   (tuple_addW0 a b its.toArray its2.toArray n n2 dd dd2 sl sl2 (by simp[hi])) ⟨ho,ho2,⟨.ref b,H,I,rfl,q0 hx⟩⟩
 ·exact Zs9 K hk pins s σ H x y v u Q I rx ry ⟨a,b,xs,ys,e1,e2,ha,hb,hx,hz,q1 hx,q2 hx⟩
end
end L2
namespace My
open PySem L2
theorem Zq13{m:List Int}{a b:Nat}(h:mk m a=mk m b):lm m a b=m:=by unfold lm;rw[if_neg (fun z=>z h)]
theorem ZY6{m:List Int}{a b:Nat}(ha:a<m.length)(hb:b<m.length):cnt m<=cnt (lm m a b)+1:=by
 by_cases e:mk m a=mk m b
 ·rw[Zq13 e];omega
 ·have:=Zz23 ha hb e;omega
theorem ZU4{n:Nat}:∀ es:List (Nat × Nat),InN n es->n<=cnt (lms n es)+es.length:=by
 refine Zz51 (fun _=>?_) fun es x ih hn=>?_
 ·have:cnt (lms n [])=n:=Zz33 n
  omega
 ·obtain⟨h1,h2,h3⟩:=hn.snoc;have hl:=ZD n es
  have:=ZY6 (m:=lms n es) (a:=x.1) (b:=x.2) (by omega) (by omega)
  have:=ih h1
  rw[Zg1,Yy8,YA,Yy17];omega
theorem ZT4{M:List Int}(h:1<=M.length):1<=cnt M:=by unfold cnt fstA;refine Yy21 (a:=0) (Yi.mpr ⟨YD.mpr (by omega),fstB_iff.mpr fun i hi=>absurd hi (Yy08 i)⟩)
theorem Zz21{n:Nat}{es:List (Nat × Nat)}(hn:1<=n)(h:InN n es):cnt (lms n es)=1↔∀ i j,i<n->j<n->Conn es i j:=by rw[Zz412 (by rw[ZD];exact hn)];exact Zz36 h
theorem Za4{ts:List Int}{o:Int}(hn:ts.Nodup)(ho:o∈ts):(wo ts o).length+1=ts.length:=by
 induction ts with
 | nil=>cases ho
 | cons x r ih =>
  obtain⟨h1,h2⟩:=Yy09.mp hn;unfold wo;rw[Yy07];by_cases e:x=o
  ·subst e;rw[if_neg (by simp)]
   have:r.filter (fun y=>decide (y≠x))=r:=Y0Y.mpr fun y hy=>Yl fun e=>h1 (e ▸ hy)
   rw[this];rfl
  ·rw[if_pos (Yl e)]
   have:=ih h2 ((Yh.mp ho).resolve_left fun z=>e z.symm)
   unfold wo at this;rw[YA,YA];omega
def Zw(ps:List (Int × Int))(z:Int):Nat × Nat:=((ps.getD z.toNat (0,0)).1.toNat,(ps.getD z.toNat (0,0)).2.toNat)
theorem Zz41(ps:List (Int × Int))(ns:List Int)(z:Int):Zz8 ps (ns++[z])=Zz8 ps ns++[Zw ps z]:=by unfold Zz8 Zw;rw[YE];rfl
theorem Zk1{n:Int}{ps:List (Int × Int)}{z:Int}(g:Zu n ps)(z0:0<=z)(z1:z<(ps.length:Int)):(Zw ps z).1<n.toNat/\(Zw ps z).2<n.toNat:=by
 have:=ZK (ns:=[z]) g (fun y hy=>by rw[Yy1.mp hy];exact⟨z0,z1⟩)
 exact this (Zw ps z) (by unfold Zz8 Zw;simp)
theorem Zw10{n:Int}{ps:List (Int × Int)}{ts:List Int}{o:Int}(hT:Zd n ps ts):∀ y∈wo ts o,0<=y/\y<(ps.length:Int):=fun y hy=>hT.1.all y (wo_mem.mp hy).1
theorem exch{n:Int}{ps:List (Int × Int)}{ts:List Int}{o z:Int}(g:Zu n ps)(hT:Zd n ps ts)(ho:o∈ts)(z0:0<=z)(z1:z<(ps.length:Int)) :
  (∀ i j,i<n.toNat->j<n.toNat->Conn (Zz8 ps (wo ts o++[z])) i j)↔¬ Conn (Zz8 ps (wo ts o)) (Zw ps z).1 (Zw ps z).2:=by
 have hn:1<=n.toNat:=by have:=g.1;omega
 have hw:=Za4 hT.1.nodup ho;have hl:(ts.length:Int)=n - 1:=hT.2.1
 have i0:InN n.toNat (Zz8 ps (wo ts o)):=ZK g (Zw10 hT);have hz:=Zk1 g z0 z1
 have ob:=hT.1.all o ho;have hoe:=Zk1 g ob.1 ob.2
 have i1:InN n.toNat (Zz8 ps (wo ts o)++[Zw ps z]):=fun e he=>(Yy9.mp he).elim (i0 e) fun q=>by rw[Yy1.mp q];exact hz
 have i2:InN n.toNat (Zz8 ps (wo ts o)++[Zw ps o]):=fun e he=>(Yy9.mp he).elim (i0 e) fun q=>by rw[Yy1.mp q];exact hoe
 have hL:=ZD n.toNat (Zz8 ps (wo ts o));have le:(Zz8 ps (wo ts o)).length=(wo ts o).length:=by unfold Zz8;rw[Yb]
 rw[Zz41];constructor
 ·intro hc c;have h1:cnt (lms n.toNat (Zz8 ps (wo ts o)++[Zw ps z]))=1:=(Zz21 hn i1).mpr hc
  rw[Zg1,Zq13 ((ZQ i0 hz.1 hz.2).mpr c)]at h1
  have:=ZU4 _ i0
  omega
 ·intro hc;have h2:cnt (lms n.toNat (Zz8 ps (wo ts o)++[Zw ps o]))=1:=by
   refine(Zz21 hn i2).mpr fun i j hi hj=>?_;rw[<- Zz41];refine(ZX fun y=>?_).mp (hT.2.2 i j hi hj);rw[Yy9,wo_mem,Yy1];constructor
   ·intro hy;by_cases e:y=o
    ·exact .inr e
    ·exact .inl ⟨hy,e⟩
   ·rintro(q | q)
    ·exact q.1
    ·rw[q];exact ho
  rw[Zg1]at h2;have h3:=ZY6 (m:=lms n.toNat (Zz8 ps (wo ts o))) (a:=(Zw ps o).1) (b:=(Zw ps o).2) (by omega) (by omega)
  have h4:=Zz23 (m:=lms n.toNat (Zz8 ps (wo ts o))) (a:=(Zw ps z).1) (b:=(Zw ps z).2) (by omega) (by omega) (fun e=>hc ((ZQ i0 hz.1 hz.2).mp e));have h5:=ZT4 (M:=lm (lms n.toNat (Zz8 ps (wo ts o))) (Zw ps z).1 (Zw ps z).2) (by rw[ZX1];omega)
  refine(Zz21 hn i1).mp ?_;rw[Zg1];omega
def cutT(n:Int)(ps:List (Int × Int))(ts:List Int)(o:Int):List Int:=unlike (lms n.toNat (Zz8 ps (wo ts o))) ps ps.length
theorem Zx1{M:List Int}{ps:List (Int × Int)}{i:Nat}{z:Int}(h:z∈unlike M ps i):0<=z/\z<(i:Int):=by
 unfold unlike at h;obtain⟨k,hk,rfl⟩:=Yr.mp h
 have:=YD.mp (Yi.mp hk).1
 omega
theorem Zz11{n:Int}{ps:List (Int × Int)}{ts:List Int}{o z:Int}(g:Zu n ps)(hT:Zd n ps ts)(z0:0<=z)(z1:z<(ps.length:Int)):z∈cutT n ps ts o↔¬ Conn (Zz8 ps (wo ts o)) (Zw ps z).1 (Zw ps z).2:=by have hz:=Zk1 g z0 z1;unfold cutT;rw[Zw5 z0 z1];exact not_congr (ZQ (ZK g (Zw10 hT)) hz.1 hz.2)
def exg(n:Int)(ps:List (Int × Int))(ts:List Int)(o z:Int):Prop:=o∈ts/\z≠o/\z∈cutT n ps ts o
instance (n:Int) (ps:List (Int × Int)) (ts:List Int) (o z:Int):Decidable (exg n ps ts o z):=by unfold exg;infer_instance
theorem Zy3{n:Int}{ps:List (Int × Int)}{ts:List Int}{o z:Int}(g:Zu n ps)(hT:Zd n ps ts) :
  exg n ps ts o z↔o∈ts/\z∉ts/\0<=z/\z<(ps.length:Int)/\∀ i j,i<n.toNat->j<n.toNat->Conn (Zz8 ps (wo ts o++[z])) i j:=by
 constructor
 ·rintro⟨h1,h2,h3⟩;obtain⟨z0,z1⟩:=Zx1 h3;have hc:=(Zz11 g hT z0 z1).mp h3
  refine⟨h1,fun hz=>hc ?_,z0,z1,(exch g hT h1 z0 z1).mpr hc⟩;refine .edge ?_;exact Yr.mpr ⟨z,wo_mem.mpr ⟨hz,h2⟩,rfl⟩
 ·rintro⟨h1,h2,z0,z1,hc⟩;exact⟨h1,fun e=>h2 (e ▸ h1),(Zz11 g hT z0 z1).mpr ((exch g hT h1 z0 z1).mp hc)⟩
def exs(n:Int)(ps:List (Int × Int))(ts:List Int)(l:List Int):List (Int × Int):=l.flatMap fun o=>(wo (cutT n ps ts o) o).map fun z=>(o,z)
theorem ZY9{n:Int}{ps:List (Int × Int)}{ts l:List Int}{i:Nat}{o:Int}(h:l[i]?=some o):exs n ps ts (l.take (i+1))=exs n ps ts (l.take i)++(wo (cutT n ps ts o) o).map fun z=>(o,z):=by
 unfold exs;rw[YO,h,List.flatMap_append];congr 1;show List.flatMap _ [o]=_
 simp
theorem ZD6{n:Int}{ps:List (Int × Int)}{ts:List Int}:∀ l:List Int,(exs n ps ts l).length<=ps.length * l.length
 | []=>by show(0:Nat)<=_;omega
 | o :: l=>by
  have:=ZD6 (n:=n) (ps:=ps) (ts:=ts) l
  have h1:(wo (cutT n ps ts o) o).length<=ps.length:=YF (ZO8 _ _) (Zz32 _ _ _);have e:exs n ps ts (o :: l)=(wo (cutT n ps ts o) o).map (fun z=>(o,z))++exs n ps ts l:=by unfold exs;rw[List.flatMap_cons]
  rw[e,Yy8,Yb,YA,Nat.mul_succ];omega
theorem PairsV.mut{H:Hp}{l:Addr}{ys zs xs:List V}{ps:List (Int × Int)}(hP:PairsV H xs ps)(hl:H l=some (.lst ys)):PairsV (upd H l (.lst zs)) xs ps:=by refine⟨hP.1,fun j p e=>?_⟩;obtain⟨v,e1,tt,e2,e3⟩:=hP.2 j p e;exact⟨v,e1,tt,e2,by rw[Zc (Zr3 e3 hl (fun z=>nomatch z))];exact e3⟩
theorem ZN8{ns:List Int}{o y:Int}{i:Nat}(h:ns[i]?=some y):(ns.take (i+1)).map (fun z=>(o,z))=(ns.take i).map (fun z=>(o,z))++[(o,y)]:=by rw[YO,h,YE];rfl
end My
namespace L2
open PySem PySem.Spec PyProof.Rows
section
variable{X:Cx}
theorem Zz96{e:Addr->Bool}{n:Nat}{x:V}{w:Value}{pins:List (Addr × Obj)}{σ:St}{H:Hp}{s:Shared}(I:Inv X pins σ H s){A:Around}(hu:A.units+n<cLine)(rx:RelV x w):∀ {xs:List V} {us:List Value},Vals xs us->(∀ v∈xs,∃ a,v=.ref a/\EqD X.K H n v x (e a))->∀ u∈us,SeqAt.EqAt A s u w (match u with | .ref a=>e a | _=>false)
 | _,_,.nil,_=>fun u hu=>by cases hu
 | y :: xs,u :: us,.cons r t,h=>fun u' hu'=>by
  rcases Yh.mp hu' with rfl | hu'
  ·obtain⟨a,rfl,q⟩:=h y Ye;obtain rfl:u'=Value.ref a:=r;exact q.at I hu rfl rx
  ·exact Zz96 I hu rx t (fun v hv=>h v (Yg _ hv)) u' hu'
end
end L2
namespace My
open PySem L2
theorem ZO4{n:Int}{ps:List (Int × Int)}{ts:List Int}{o y:Int}(g:Zu n ps)(hT:Zd n ps ts)(ho:o∈ts)(hy:y∈ts):y∈cutT n ps ts o↔y=o:=by
 have yb:=hT.1.all y hy;rw[Zz11 g hT yb.1 yb.2];constructor
 ·intro h;by_cases e:y=o
  ·exact e
  ·exact absurd (.edge (Yr.mpr ⟨y,wo_mem.mpr ⟨hy,e⟩,rfl⟩)) h
 ·rintro rfl;refine(exch g hT hy yb.1 yb.2).mp fun i j hi hj=>(ZX fun z=>?_).mp (hT.2.2 i j hi hj);rw[Yy9,wo_mem,Yy1];constructor
  ·intro hz;by_cases e:z=y
   ·exact .inr e
   ·exact .inl ⟨hz,e⟩
  ·rintro(q | q)
   ·exact q.1
   ·rw[q];exact hy
theorem ringA_mem{n:Int}{ps:List (Int × Int)}{ts l:List Int}{z y:Int}:y∈ZV10 n ps ts z l↔y∈l/\z∈cutT n ps ts y:=by unfold ZV10;rw[Yi,YJ];exact Iff.rfl
theorem Zj2{n:Int}{ps:List (Int × Int)}{ts ms:List Int}{o z:Int}(g:Zu n ps)(hT:Zd n ps ts)(hx:exg n ps ts o z)(hpm:ms.Perm (wo ts o++[z]))(hpw:ms.Pairwise (·<=·)):Zd n ps ms:=by
 obtain⟨ho,hz,z0,z1,hc⟩:=(Zy3 g hT).mp hx;have nd:(wo ts o++[z]).Nodup:=Zi8 (hT.1.nodup.sublist List.filter_sublist) fun h=>hz (wo_mem.mp h).1
 have ndm:ms.Nodup:=hpm.nodup_iff.mpr nd;have hl:=Za4 hT.1.nodup ho
 have hl2:=hpm.length_eq;rw[Yy8,YM]at hl2;refine⟨isSet_iff.mpr ⟨fun y hy=>?_,(List.pairwise_and_iff.mpr ⟨hpw,ndm⟩).imp fun {x y} h=>by have:=h.1;have:=h.2;omega⟩,by rw[hl2,hl];exact hT.2.1,fun i j hi hj=>(ZX fun y=>hpm.mem_iff).mpr (hc i j hi hj)⟩;rcases Yy9.mp (hpm.mem_iff.mp hy) with h | h
 ·exact hT.1.all y (wo_mem.mp h).1
 ·rw[Yy1.mp h];exact⟨z0,z1⟩
section
variable{n:Int}{ps:List (Int × Int)}{ts ms:List Int}{o z:Int}(g:Zu n ps)(hT:Zd n ps ts)(hx:exg n ps ts o z)(hpm:ms.Perm (wo ts o++[z]))(hpw:ms.Pairwise (·<=·))
include g hT hx hpm hpw
theorem ZP11{y:Int}:y∈ms↔(y∈ts/\y≠o)\/y=z:=by rw[hpm.mem_iff,Yy9,wo_mem,Yy1]
end
def grd(n:Nat)(ps:List (Int × Int)):Nat->List Int
 | 0=>[]
 | k+1=>if mk (lms n (Zz8 ps (grd n ps k))) (Zw ps (k:Int)).1=mk (lms n (Zz8 ps (grd n ps k))) (Zw ps (k:Int)).2 then grd n ps k else grd n ps k++[(k:Int)]
theorem ZJ1(n:Nat)(ps:List (Int × Int))(k:Nat):grd n ps (k+1)=if mk (lms n (Zz8 ps (grd n ps k))) (Zw ps (k:Int)).1=mk (lms n (Zz8 ps (grd n ps k))) (Zw ps (k:Int)).2 then grd n ps k else grd n ps k++[(k:Int)]:=rfl
theorem Zk5{n:Nat}{ps:List (Int × Int)}:∀ k,∀ z∈grd n ps k,0<=z/\z<(k:Int)
 | 0,z,h=>by cases h
 | k+1,z,h=>by
  rw[ZJ1]at h;split at h
  ·have:=Zk5 k z h;omega
  ·rcases Yy9.mp h with h | h
   ·have:=Zk5 k z h;omega
   ·rw[Yy1.mp h];omega
theorem Zv3{n:Nat}{ps:List (Int × Int)}:∀ k,(grd n ps k).Pairwise (· < ·)
 | 0=>List.Pairwise.nil
 | k+1=>by
  rw[ZJ1];split
  ·exact Zv3 k
  ·rw[YY];exact⟨Zv3 k,Y0b ..,fun a ha b hb=>by rw[Yy1.mp hb];exact(Zk5 k a ha).2⟩
theorem Zr6{n:Nat}{ps:List (Int × Int)}{k:Nat}(hk:k<=ps.length):IsSet ps.length (grd n ps k):=isSet_iff.mpr ⟨fun z hz=>by have:=Zk5 k z hz;omega,Zv3 k⟩
theorem ZJ7{n:Int}{ps:List (Int × Int)}(g:Zu n ps){k:Nat}(hk:k<=ps.length):InN n.toNat (Zz8 ps (grd n.toNat ps k)):=ZK g (Zr6 hk).all
theorem Zy4{n:Nat}{ps:List (Int × Int)}{j:Nat}:∀ k,j<=k->∀ z,z∈grd n ps j↔z∈grd n ps k/\z<(j:Int)
 | 0,h,z=>by
  have:j=0:=by omega
  subst this;exact⟨fun h=>(by cases h),fun h=>h.1⟩
 | k+1,h,z=>by
  by_cases e:j=k+1
  ·subst e;exact⟨fun h=>⟨h,(Zk5 _ z h).2⟩,fun h=>h.1⟩
  ·have ih:=Zy4 (n:=n) (ps:=ps) (j:=j) k (by omega) z;rw[ZJ1,ih];split
   ·exact Iff.rfl
   ·rw[Yy9,Yy1];constructor
    ·rintro⟨h1,h2⟩;exact⟨.inl h1,h2⟩
    ·rintro⟨h1 | h1,h2⟩
     ·exact⟨h1,h2⟩
     ·omega
theorem Zw8{n:Int}{ps:List (Int × Int)}(g:Zu n ps){k j:Nat}(hk:k<=ps.length)(hj:j<k)(hn:(j:Int)∉grd n.toNat ps k):Conn (Zz8 ps (grd n.toNat ps j)) (Zw ps (j:Int)).1 (Zw ps (j:Int)).2:=by
 have he:=Zk1 (z:=(j:Int)) g (by omega) (by omega);have h1:(j:Int)∉grd n.toNat ps (j+1):=fun h=>hn ((Zy4 k hj _).mp h).1
 rw[ZJ1]at h1;split at h1
 ·rename_i h;exact(ZQ (ZJ7 g (by omega)) he.1 he.2).mp h
 ·exact absurd (Yd _ (Yy1.mpr rfl)) h1
theorem ZA4{n:Int}{ps:List (Int × Int)}(g:Zu n ps):∀ k,k<=ps.length->cnt (lms n.toNat (Zz8 ps (grd n.toNat ps k)))+(grd n.toNat ps k).length=n.toNat
 | 0,_=>Zz33 n.toNat
 | k+1,hk=>by
  have ih:=ZA4 g k (by omega);have he:=Zk1 (z:=(k:Int)) g (by omega) (by omega)
  have hl:=ZD n.toNat (Zz8 ps (grd n.toNat ps k));rw[ZJ1];split
  ·exact ih
  ·rename_i h;rw[Zz41,Zg1,Yy8,YM]
   have:=Zz23 (m:=lms n.toNat (Zz8 ps (grd n.toNat ps k))) (by omega) (by omega) h
   omega
theorem Zu6{n:Int}{ps:List (Int × Int)}(g:Zu n ps){ts:List Int}(ht:∀ z∈ts,0<=z/\z<(ps.length:Int)){i j:Nat}(c:Conn (Zz8 ps ts) i j):Conn (Zz8 ps (grd n.toNat ps ps.length)) i j:=by
 induction c with
 | refl i=>exact .refl i
 | symm _ ih=>exact .symm ih
 | trans _ _ i1 i2=>exact .trans i1 i2
 | @edge a b h =>
  obtain⟨z,hz,e⟩:=Yr.mp h;obtain⟨z0,z1⟩:=ht z hz;have ez:z=((z.toNat:Nat):Int):=by omega
  by_cases hm:z∈grd n.toNat ps ps.length
  ·exact .edge (Yr.mpr ⟨z,hm,e⟩)
  ·rw[ez]at hm;have c:=Zw8 g (Yy7 _) (by omega) hm
   have c2:=c.mono (Zx fun y hy=>((Zy4 ps.length (by omega) y).mp hy).1);rw[<- ez]at c2;have ea:a=(Zw ps z).1:=(Yy04 Prod.fst e).symm
   have eb:b=(Zw ps z).2:=(Yy04 Prod.snd e).symm;rw[ea,eb];exact c2
theorem ZY3{n:Int}{ps:List (Int × Int)}(g:Zu n ps){ts:List Int}(hT:Zd n ps ts):Zd n ps (grd n.toNat ps ps.length):=by
 have hc:∀ i j,i<n.toNat->j<n.toNat->Conn (Zz8 ps (grd n.toNat ps ps.length)) i j:=fun i j hi hj=>Zu6 g hT.1.all (hT.2.2 i j hi hj);have h1:=(Zz21 (by have:=g.1;omega) (ZJ7 g (Yy7 _))).mpr hc
 have h2:=ZA4 g ps.length (Yy7 _);exact⟨Zr6 (Yy7 _),by have:=g.1;omega,hc⟩
theorem Zt6{n:Int}{ps:List (Int × Int)}(g:Zu n ps)(h:¬ ((grd n.toNat ps ps.length).length:Int)<n - 1):Zd n ps (grd n.toNat ps ps.length):=by
 have h2:=ZA4 g ps.length (Yy7 _);have h3:=ZT4 (M:=lms n.toNat (Zz8 ps (grd n.toNat ps ps.length))) (by rw[ZD];have:=g.1;omega)
 exact⟨Zr6 (Yy7 _),by have:=g.1;omega,(Zz21 (by have:=g.1;omega) (ZJ7 g (Yy7 _))).mp (by omega)⟩
theorem Zp4:∀ {a b:List Int},a.length=b.length->HT.lexLt a b=true->∃(p:List Int) (x y:Int) (r s:List Int),a=p++x :: r/\b=p++y :: s/\x<y
 | [],[],_,h=>by cases h
 | [],_ :: _,e,_=>by simp at e
 | _ :: _,[],e,_=>by simp at e
 | x :: xs,y :: ys,e,h=>by
  rw[HT.lexLt_cons]at h;by_cases q:x=y
  ·subst q;rw[if_pos rfl]at h;obtain⟨p,u,v,r,s,e1,e2,e3⟩:=Zp4 (by simpa using e) h;exact⟨x :: p,u,v,r,s,by rw[e1];rfl,by rw[e2];rfl,e3⟩
  ·rw[if_neg q]at h;exact⟨[],x,y,xs,ys,rfl,rfl,Yt h⟩
theorem Zt11:∀ {a b:List Int},HT.lexLt a b=false->HT.lexLt b a=false->a=b
 | [],[],_,_=>rfl
 | [],_ :: _,h,_=>by cases h
 | _ :: _,[],_,h=>by cases h
 | x :: xs,y :: ys,h1,h2=>by
  rw[HT.lexLt_cons]at h1 h2;by_cases q:x=y
  ·subst q;rw[if_pos rfl]at h1 h2;rw[Zt11 h1 h2]
  ·rw[if_neg q]at h1;rw[if_neg (fun e=>q e.symm)]at h2
   have:=of_decide_eq_false h1
   have:=of_decide_eq_false h2
   omega
theorem Yz4{n:Int}{ps:List (Int × Int)}(g:Zu n ps){ts:List Int}(hT:Zd n ps ts):HT.lexLt ts (grd n.toNat ps ps.length)=false:=by
 have hG:=ZY3 g hT;cases h:HT.lexLt ts (grd n.toNat ps ps.length) with
 | false=>rfl
 | true =>
  exfalso;obtain⟨p,x,y,r,s,e1,e2,hxy⟩:=Zp4 (by have:=hT.2.1;have:=hG.2.1;omega) h
  have hx:x∈ts:=by rw[e1];simp
  obtain⟨x0,x1⟩:=hT.1.all x hx;have at1:=(isSet_iff.mp hT.1).2
  have ag:=Zv3 (n:=n.toNat) (ps:=ps) ps.length;rw[e1,YY]at at1;rw[e2,YY]at ag;have px:∀ z∈p,z<x:=fun z hz=>at1.2.2 z hz x Ye
  have ys:∀ z∈y :: s,x<z:=fun z hz=>by
   rcases Yh.mp hz with e | hz
   ·rw[e];exact hxy
   ·have:=(Yy01.mp ag.2.1).1 z hz;omega
  have ex:x=((x.toNat:Nat):Int):=by omega
  have hn:((x.toNat:Nat):Int)∉grd n.toNat ps ps.length:=by
   rw[<- ex,e2,Yy9];rintro(h | h)
   ·have:=px x h;omega
   ·have:=ys x h;omega
  have c:=Zw8 g (Yy7 _) (by omega) hn;have c2:Conn (Zz8 ps (wo ts x)) (Zw ps x).1 (Zw ps x).2:=by
   rw[<- ex]at c;refine c.mono (Zx fun z hz=>?_);obtain⟨h1,h2⟩:=(Zy4 ps.length (by omega) z).mp hz;rw[<- ex]at h2;rw[e2,Yy9]at h1;rcases h1 with h1 | h1
   ·exact wo_mem.mpr ⟨by rw[e1];exact Yk _ h1,by omega⟩
   ·have:=ys z h1;omega
  exact(Zz11 g hT x0 x1).mp ((ZO4 g hT hx hx).mpr rfl) c2
theorem lex_trans:∀ {a b c:List Int},HT.lexLt a b=true->HT.lexLt b c=true->HT.lexLt a c=true
 | [],[],_,h,_=>by cases h
 | [],_ :: _,[],_,h=>by cases h
 | [],_ :: _,_ :: _,_,_=>rfl
 | _ :: _,[],_,h,_=>by cases h
 | _ :: _,_ :: _,[],_,h=>by cases h
 | x :: xs,y :: ys,z :: zs,h1,h2=>by
  rw[HT.lexLt_cons]at h1 h2 ⊢;by_cases e1:x=y
  ·subst e1;rw[if_pos rfl]at h1;by_cases e2:x=z
   ·subst e2;rw[if_pos rfl]at h2 ⊢;exact lex_trans h1 h2
   ·rw[if_neg e2]at h2 ⊢;exact h2
  ·rw[if_neg e1]at h1;have h1:=Yt h1
   by_cases e2:y=z
   ·subst e2;rw[if_neg e1];exact Yl h1
   ·rw[if_neg e2]at h2;have h2:=Yt h2
    rw[if_neg (by omega)];exact Yl (by omega)
theorem lex_irrefl:∀ a:List Int,HT.lexLt a a=false
 | []=>rfl
 | x :: xs=>by rw[HT.lexLt_cons,if_pos rfl];exact lex_irrefl xs
theorem best_le(bt:Nat->Nat->Bool):∀ j,argBest bt j<=j
 | 0=>Yy7 _
 | j+1=>by
  unfold argBest;split
  ·exact Yy7 _
  ·have:=best_le bt j;omega
def nxt(s:List Int):Int:=match s.getLast? with | none=>0 | some x=>x+1
def ext1(m:Int)(s:List Int):List (List Int):=(List.range (m - nxt s).toNat).map fun(i:Nat)=>s++[nxt s+(i:Int)]
def cmb(m:Int):Nat->List (List Int)
 | 0=>[[]]
 | k+1=>(cmb m k).flatMap (ext1 m)
theorem Zt9(s:List Int)(x:Int):nxt (s++[x])=x+1:=by unfold nxt;rw[List.getLast?_append];rfl
theorem ext1_mem{m:Int}{s l:List Int}:l∈ext1 m s↔∃ t,nxt s<=t/\t<m/\l=s++[t]:=by
 unfold ext1;rw[Yr];constructor
 ·rintro⟨i,hi,rfl⟩
  have:=YD.mp hi
  exact⟨_,by omega,by omega,rfl⟩
 ·rintro⟨t,h1,h2,rfl⟩;exact⟨(t - nxt s).toNat,YD.mpr (by omega),by rw[show nxt s+(((t - nxt s).toNat:Nat):Int)=t by omega]⟩
theorem asc_snoc{m:Nat}{s:List Int}{t:Int}:IsSet m (s++[t])↔IsSet m s/\nxt s<=t/\0<=t/\t<(m:Int):=by
 rw[isSet_iff,isSet_iff,YY];have last:(∀ a∈s,∀ b∈[t],a<b)/\s.Pairwise (· < ·)->nxt s<=t\/t<0:=by
  rintro⟨h,_⟩;unfold nxt;cases e:s.getLast? with
  | none=>by_cases h0:0<=t;exact .inl h0;exact .inr (by omega)
  | some x=>have:=h x (List.mem_of_getLast? e) t (by simp);exact .inl (by show x+1<=t;omega)
 constructor
 ·rintro⟨h1,h2,_,h3⟩;have ht:=h1 t (by simp)
  refine⟨⟨fun z hz=>h1 z (Yk _ hz),h2⟩,?_,ht⟩;rcases last ⟨h3,h2⟩ with h | h
  ·exact h
  ·omega
 ·rintro⟨⟨h1,h2⟩,h3,h4,h5⟩;refine⟨fun z hz=>?_,h2,Y0b ..,fun a ha b hb=>?_⟩
  ·rcases Yy9.mp hz with h | h
   ·exact h1 z h
   ·rw[Yy1.mp h];exact⟨h4,h5⟩
  ·rw[Yy1.mp hb];have key:∀ {s:List Int} {a:Int},s.Pairwise (· < ·)->a∈s->a<nxt s:=by
    refine fun {s}=>Zz51 (P:=fun s=>∀ {a:Int},s.Pairwise (· < ·)->a∈s->a<nxt s) (fun {a} _ h=>by cases h) (fun l x ih {a} hp h=>?_) s;rw[Zt9];rw[YY]at hp;rcases Yy9.mp h with h | h
    ·have:=hp.2.2 a h x (by simp);omega
    ·rw[Yy1.mp h];omega
   have:=key h2 ha
   omega
theorem cmb_mem{m:Nat}:∀ {k:Nat} {l:List Int},l∈cmb (m:Int) k↔l.length=k/\IsSet m l
 | 0,l=>by
  show l∈[[]]↔_;rw[Yy1];constructor
  ·rintro rfl;exact⟨rfl,fun i z e=>by simp at e⟩
  ·rintro⟨h,_⟩;exact YK.mp h
 | k+1,l=>by
  show l∈(cmb (m:Int) k).flatMap (ext1 m)↔_;rw[Y1i];constructor
  ·rintro⟨s,hs,hl⟩;obtain⟨t,h1,h2,rfl⟩:=ext1_mem.mp hl;obtain⟨e,hI⟩:=cmb_mem.mp hs;have n0:0<=nxt s:=by
    unfold nxt;cases q:s.getLast? with
    | none=>exact Y0v 0
    | some x=>have:=(hI.all x (List.mem_of_getLast? q)).1;show 0<=x+1;omega
   exact⟨by rw[Yy8,e];rfl,asc_snoc.mpr ⟨hI,h1,by omega,h2⟩⟩
  ·rintro⟨e,hI⟩;have hne:l≠[]:=fun z=>by rw[z]at e;simp at e
   obtain⟨s,t,rfl⟩:∃ s t,l=s++[t]:=⟨l.dropLast,l.getLast hne,(Y2I hne).symm⟩;obtain⟨h1,h2,h3,h4⟩:=asc_snoc.mp hI;exact⟨s,cmb_mem.mpr ⟨by rw[Yy8]at e;simpa using e,h1⟩,ext1_mem.mpr ⟨t,h2,h4,rfl⟩⟩
theorem ZC2:∀ {w t:List Int},t.Pairwise (· < ·)->w.Pairwise (· < ·)->(∀ z∈t,z∈w)->t.Sublist w
 | [],[],_,_,_=>List.Sublist.slnil
 | [],x :: t,_,_,h=>absurd (h x Ye) (by simp)
 | y :: w,[],_,_,_=>List.nil_sublist _
 | y :: w,x :: t,ht,hw,h=>by
  obtain⟨h1,h2⟩:=Yy01.mp ht;obtain⟨h3,h4⟩:=Yy01.mp hw;by_cases e:x=y
  ·subst e;refine List.Sublist.cons₂ _ (ZC2 h2 h4 fun z hz=>?_);rcases Yh.mp (h z (Yg _ hz)) with q | q
   ·have:=h1 z hz;omega
   ·exact q
  ·have hx:x∈w:=(Yh.mp (h x Ye)).resolve_left e;refine List.Sublist.cons _ (ZC2 ht h4 fun z hz=>?_);rcases Yh.mp (h z hz) with q | q
   ·have:=h3 x hx
    rcases Yh.mp hz with q2 | q2
    ·rw[q2];exact hx
    ·have:=h1 z q2;omega
   ·exact q
def pmf(M:List Int)(es:List (Nat × Nat)):List Int:=es.foldl (fun m e=>pm m e.1 e.2) M
theorem Zk9(M:List Int)(es:List (Nat × Nat))(e:Nat × Nat):pmf M (es++[e])=pm (pmf M es) e.1 e.2:=by unfold pmf;rw[Y1s];rfl
theorem ZV5(M:List Int):∀ es:List (Nat × Nat),(pmf M es).length=M.length:=by
 intro es;unfold pmf
 induction es generalizing M with
 | nil=>rfl
 | cons e l ih=>rw[Yy29,ih,Yz1]
theorem ZR6{xs:List V}{i:Int}(h0:0<=i):cutV xs none (some i)=xs.take i.toNat:=by
 have e:HT.sIx xs.length xs.length (some i)=min i.toNat xs.length:=by show(if i<0 then (i+(xs.length:Int)).toNat else min i.toNat xs.length)=_;rw[if_neg (by omega)]
 unfold cutV;rw[e,HT.sIx_none,List.drop_zero,Nat.sub_zero];by_cases h:i.toNat<=xs.length
 ·rw[Nat.min_eq_left h]
 ·rw[Nat.min_eq_right (by omega),Y0g (Yy7 _),Y0g (by omega)]
def rgL(m:Nat):List Int:=(List.range m).map fun(i:Nat)=>(i:Int)
theorem rgL_mem{m:Nat}{z:Int}:z∈rgL m↔0<=z/\z<(m:Int):=by
 unfold rgL;rw[Yr];constructor
 ·rintro⟨i,hi,rfl⟩
  have:=YD.mp hi
  omega
 ·intro h;exact⟨z.toNat,YD.mpr (by omega),by omega⟩
theorem Zy(m:Nat):(rgL m).length=m:=by unfold rgL;simp
theorem Zh4(m:Nat):(rgL m).Pairwise (· < ·):=by unfold rgL;rw[Y0V];exact Yy11.imp fun h=>by omega
theorem Zv2(m:Nat):IsSet m (rgL m):=isSet_iff.mpr ⟨fun z hz=>rgL_mem.mp hz,Zh4 m⟩
theorem Zz89(m:Nat):rngI 0 (m:Int)=rgL m:=by unfold rngI rgL;rw[Y2K,Yw];exact YL fun i _=>by omega
def Zz18(n:Int)(ps:List (Int × Int)):Prop:=∀ i j,i<n.toNat->j<n.toNat->Conn (Zz8 ps (rgL ps.length)) i j
end My
namespace L2
open PySem PySem.Spec PyProof.Rows
section
variable{prog:Program}{w:World}{A:Around}{E:Value->Shared->Prop}{s:Shared}
theorem Zo5{r:Addr}{a b c:Int}{t u v:Tok}{n:Nat}{Q:List Value->Shared->Prop}(hh:A.handled=none)(hr:IsRange s.heap r a b c t u v)(hm:Builtin.Range.small a b c=true)(hn:Builtin.Range.rangeSize a b c=n)(hl:n<=2 ^ 24)
  (k:∀(h':Heap) (tk:Nat) (acc:Array Value),(∀ b o,s.heap.get? b=some o->h'.get? b=some o)->ItemsOf (fun i v=>∃ t,v=.int (a+i * c) t) acc n->Q acc.toList { s with heap:=h',toks:=tk }):wpAny (model prog w) A (collect (.ref r)) Q E s:=by
 have hL1:(s.heap.push (seqObj "list" #[] 0)).get? s.heap.objs.size=some (seqObj "list" #[] 0):=Yo _ rfl;unfold collect;refine Yy4 (Y2D (Y0c Yy33 ?_));show wpAny _ A.in1 (do again (.builtin "list.__iadd__" ⟨[<- newList [],.ref r],[]⟩)) _ _ s
 refine Yy4 (Y1T (Yn ⟨Yy26 _ (by decide +kernel),Y0c entry_list_iadd' ?_⟩));show wpAny _ A.in1 (Builtin.List.listExtendWith (.ref s.heap.objs.size) (.ref r) (.ref s.heap.objs.size)) _ _ { s with heap:=s.heap.push (seqObj "list" #[] 0) }
 refine Y0O (wpAny_extend_range (A:=A) (R:=fun x s'=>∃(h':Heap) (tk:Nat) (acc:Array Value) (c':Nat),x=.ok (.ret (.ref s.heap.objs.size))/\s'={ s with heap:=h',toks:=tk }/\(∀ b o,s.heap.get? b=some o->h'.get? b=some o) /\
   h'.get? s.heap.objs.size=some { cls:=.type "list",dict:=none,data:=.seq acc c',slots:=#[] }/\ItemsOf (fun i v=>∃ t,v=.int (a+i * c) t) acc n)
  (s:={ s with heap:=s.heap.push (seqObj "list" #[] 0) }) hh (Yy5 _ hr) hm hn hl _ _ 0 hL1 fun h' tk acc c' k1 k2 k3=>⟨h',tk,acc,c',rfl,rfl,fun b o e=>k1 b o (Yu (Yp e)) (Yy5 _ e),k2,k3⟩) (fun fin s' z=>?_) (fun e s' z=>?_)
 ·cases fin with
  | done f =>
   obtain⟨h',tk,acc,c',e,rfl,k1,k2,k3⟩:=z;cases e;refine Yy4 (Yy37 k2 ?_);exact Yn (k h' tk acc k1 k3)
  | again c' =>
   refine⟨z.1,Y1x z.2 fun x s2 z=>?_⟩;obtain⟨h',tk,acc,c',rfl,rfl,k1,k2,k3⟩:=z;refine Yy4 (Yy37 k2 ?_);exact Yn (k h' tk acc k1 k3)
 ·obtain⟨h',tk,acc,c',e,_⟩:=z;cases e
theorem Zq3{r:Addr}{a b c:Int}{t u v:Tok}{n:Nat}(hm:Builtin.Range.small a b c=true)(hn:Builtin.Range.rangeSize a b c=n)(hl:n<=2 ^ 24) :
  Meets (Builtin.«tuple.__new__» ⟨[.type "tuple",.ref r],[]⟩) (fun A R s=>A.handled=none/\IsRange s.heap r a b c t u v/\∀(h':Heap) (tk:Nat) (acc:Array Value),(∀ b o,s.heap.get? b=some o->h'.get? b=some o)->ItemsOf (fun i v=>∃ t,v=.int (a+i * c) t) acc n ->
   R (.ok (.ret (.ref h'.objs.size))) { s with heap:=h'.push (seqObj "tuple" acc 0),toks:=tk }) :=
 .of_wp fun prog w A R s h=>by
  obtain⟨hh,hr,h⟩:=h;have e1:=sub_tuple_self
  have e2:=init_tuple_lookup;have e3:=madeHere_tuple
  have hT:s.TypeIs (.ref r) "range":=⟨_,hr,rfl⟩;have hh1:A.in1.handled=none:=hh
  wp_walk using Yy36 hT,Zo5 hh1 hr hm hn hl
  intro h' tk acc hk hacc;show wpAny _ _ (Builtin.Tuple.tupleExact acc.toList.toArray >>= ret) _ _ _
  unfold Builtin.Tuple.tupleExact;have e:acc.toList.toArray=acc:=by simp
  rw[e];refine Yy4 (Y0D ?_ (by show acc.size<=sizeLine;rw[hacc.1,Y0M];exact hl));exact Yn ⟨_,rfl,h h' tk acc hk hacc⟩
theorem Zo2{r:Addr}{a b c:Int}{t u v:Tok}{n:Nat}{Q:Value->Shared->Prop}(hh:A.handled=none)(hr:IsRange s.heap r a b c t u v)(hm:Builtin.Range.small a b c=true)(hn:Builtin.Range.rangeSize a b c=n)(hl:n<=2 ^ 24)
  (k:∀(h':Heap) (tk:Nat) (acc:Array Value),(∀ b o,s.heap.get? b=some o->h'.get? b=some o)->ItemsOf (fun i v=>∃ t,v=.int (a+i * c) t) acc n->Q (.ref h'.objs.size) { s with heap:=h'.push (seqObj "tuple" acc 0),toks:=tk }):wpAny (model prog w) A (call (.type "tuple") [.ref r]) Q E s :=
 callType_new F.called_tuple (by decide) (F.typeCall_tuple_1 _) (F.newCall_tuple_1 _) (fun o=>F.args_object_init_2 o _) F.entry_tuple_new (Zq3 (t:=t) (u:=u) (v:=v) hm hn hl)
  ⟨hh,hr,fun h' tk acc hk hacc=>⟨⟨_,Yo _ rfl,rfl⟩,k h' tk acc hk hacc⟩⟩
end
section
variable{X:Cx}
theorem Zz63 (hc:X.calm=true):Zb3 X (.type "tuple") (fun xs H Q=>∃ p lo hi,xs=[.ref p]/\H p=some (.rng lo hi)/\(-(2 ^ 62)<=lo/\lo<2 ^ 62/\-(2 ^ 62)<=hi/\hi<2 ^ 62)/\(hi - lo).toNat<=16777216 /\
  ∀ l,H l=none->Q (.ref l) (upd H l (.tup ((rngI lo hi).map V.int)))):=by
 intro pins s σ H xs us Q I r h;obtain⟨p,lo,hi,rfl,hp,⟨b1,b2,b3,b4⟩,hz,q⟩:=h;obtain⟨u,rfl,ru⟩:=Zz75 r;obtain rfl:u=Value.ref p:=ru;obtain⟨t,u,v,e⟩:=(show ObjOk X.prog X.w H s.heap p (.rng lo hi) from I.hok p _ hp);have hn:Builtin.Range.rangeSize lo hi 1=(((hi - lo).toNat:Nat):Int):=by rw[rangeSize_one];split <;> omega
 refine Zo2 (I.ok.hd hc) (t:=t) (u:=u) (v:=v) e (small_one b1 b2 b3 b4) hn hz fun h' tk acc hk ha=>?_;have hl:acc.toList.length=(hi - lo).toNat:=by rw[YN];exact ha.1
 have rv:Vals ((rngI lo hi).map V.int) acc.toList:=Zu5 (lo:=lo) hl fun j w ew=>by obtain⟨t,e⟩:=ha.2 j w (by simpa using ew);exact⟨t,by rw[e,Y1n]⟩
 have I1:Inv X pins σ H { s with heap:=h',toks:=tk }:=I.kept (t':=tk) hk;have hz2:((rngI lo hi).map V.int).length<=sizeLine:=by
  rw[Yb,Zu2]
  have:sizeLine=16777216:=Y0M
  omega
 have I2:Inv X pins σ (upd H h'.objs.size (.tup ((rngI lo hi).map V.int))) { s with heap:=h'.push (seqObj "tuple" acc.toList.toArray 0),toks:=tk } :=
  I1.laid (t':=tk) (fun b o e=>Yy5 _ e) (Yy7 _) (show ObjOk X.prog X.w _ _ _ (.tup ((rngI lo hi).map V.int)) from⟨hz2,acc.toList,rv,IsTup.new _ _⟩)
 have ea:acc.toList.toArray=acc:=by simp
 rw[ea]at I2;exact⟨.ref h'.objs.size,_,I2,rfl,q _ (I1.hok.fresh (Yy7 _))⟩
end
end L2
namespace My
open PySem L2
def gst(n:Nat)(ps:List (Int × Int))(G:List Int)(z:Int):List Int:=if mk (lms n (Zz8 ps G)) (Zw ps z).1=mk (lms n (Zz8 ps G)) (Zw ps z).2 then G else G++[z]
def grw(n:Nat)(ps:List (Int × Int))(zs:List Int):List Int:=zs.foldl (gst n ps) []
theorem Zh1(n:Nat)(ps:List (Int × Int))(zs:List Int)(z:Int):grw n ps (zs++[z])=gst n ps (grw n ps zs) z:=by unfold grw;rw[Y1s];rfl
theorem Zx4(n:Nat)(ps:List (Int × Int))(zs:List Int):∀ ys,∃ us,grw n ps (zs++ys)=grw n ps zs++us/\us.Sublist ys:=by
 refine Zz51 ⟨[],by simp⟩ fun ys y ih=>?_;obtain⟨us,e,s⟩:=ih;rw[<- Y0f,Zh1,e];unfold gst;split
 ·exact⟨us,rfl,s.trans (List.sublist_append_left _ _)⟩
 ·exact⟨us++[y],by rw[Y0f],s.append (List.Sublist.refl _)⟩
theorem Zv4(n:Nat)(ps:List (Int × Int))(zs:List Int):(grw n ps zs).Sublist zs:=by obtain⟨us,e,s⟩:=Zx4 n ps [] zs;rw[Y0L]at e;rw[e];exact s
theorem ZW2(n:Nat)(ps:List (Int × Int)):∀ k,grw n ps ((List.range k).map fun(i:Nat)=>(i:Int))=grd n ps k
 | 0=>rfl
 | k+1=>by rw[Y0W,YE,Y2l,Zh1,ZW2 n ps k,ZJ1];rfl
theorem Zt8{n:Nat}{ps:List (Int × Int)}{zs:List Int}(h:∀ z∈zs,0<=z/\z<(ps.length:Int)):∀ z∈grw n ps zs,0<=z/\z<(ps.length:Int):=fun z hz=>h z ((Zv4 n ps zs).subset hz)
theorem Zj5{n:Int}{ps:List (Int × Int)}(g:Zu n ps){zs:List Int}(h:∀ z∈zs,0<=z/\z<(ps.length:Int)):InN n.toNat (Zz8 ps (grw n.toNat ps zs)):=ZK g (Zt8 h)
theorem Zw4{n:Int}{ps:List (Int × Int)}(g:Zu n ps):∀ zs:List Int,(∀ z∈zs,0<=z/\z<(ps.length:Int))->cnt (lms n.toNat (Zz8 ps (grw n.toNat ps zs)))+(grw n.toNat ps zs).length=n.toNat:=by
 refine Zz51 (fun _=>Zz33 n.toNat) fun zs z ih h=>?_;have h1:∀ z∈zs,0<=z/\z<(ps.length:Int):=fun y hy=>h y (Yk _ hy)
 have ih:=ih h1;obtain⟨z0,z1⟩:=h z (Yd _ (Yy1.mpr rfl));have he:=Zk1 (z:=z) g z0 z1
 have hl:=ZD n.toNat (Zz8 ps (grw n.toNat ps zs));rw[Zh1];unfold gst;split
 ·exact ih
 ·rename_i h;rw[Zz41,Zg1,Yy8,YM]
  have:=Zz23 (m:=lms n.toNat (Zz8 ps (grw n.toNat ps zs))) (by omega) (by omega) h
  omega
theorem Zs8{n:Int}{ps:List (Int × Int)}(g:Zu n ps){zs:List Int}(h:∀ z∈zs,0<=z/\z<(ps.length:Int)):(grw n.toNat ps zs).length<=14:=by
 have:=Zw4 g zs h
 have:=g.2.1
 omega
theorem ZS9{n:Int}{ps:List (Int × Int)}(g:Zu n ps):∀ zs:List Int,(∀ z∈zs,0<=z/\z<(ps.length:Int))->∀ {i j:Nat},Conn (Zz8 ps zs) i j->Conn (Zz8 ps (grw n.toNat ps zs)) i j:=by
 refine Zz51 (fun _ _ _ c=>c) fun zs z IH h i j c=>?_;have h1:∀ z∈zs,0<=z/\z<(ps.length:Int):=fun y hy=>h y (Yk _ hy)
 obtain⟨z0,z1⟩:=h z (Yd _ (Yy1.mpr rfl));have he:=Zk1 (z:=z) g z0 z1
 have up:∀ {a b:Nat},Conn (Zz8 ps (grw n.toNat ps zs)) a b->Conn (Zz8 ps (grw n.toNat ps (zs++[z]))) a b:=fun c=>by
  rw[Zh1];unfold gst;split
  ·exact c
  ·exact c.mono (Zx fun y hy=>Yk _ hy)
 have own:Conn (Zz8 ps (grw n.toNat ps (zs++[z]))) (Zw ps z).1 (Zw ps z).2:=by
  rw[Zh1];unfold gst;split
  ·rename_i e;exact(ZQ (Zj5 g h1) he.1 he.2).mp e
  ·rw[Zz41];exact .edge (Yd _ (Yy1.mpr rfl))
 induction c with
 | refl i=>exact .refl i
 | symm _ ih=>exact .symm ih
 | trans _ _ i1 i2=>exact .trans i1 i2
 | @edge a b e =>
  rw[Zz41]at e;rcases Yy9.mp e with e | e
  ·exact up (IH h1 (.edge e))
  ·have e:=Yy1.mp e;have ea:a=(Zw ps z).1:=Yy04 Prod.fst e
   have eb:b=(Zw ps z).2:=Yy04 Prod.snd e;rw[ea,eb];exact own
theorem Zs6{n:Int}{ps:List (Int × Int)}(g:Zu n ps):Zz18 n ps↔¬ ((grd n.toNat ps ps.length).length:Int)<n - 1:=by
 constructor
 ·intro h;have hc:∀ i j,i<n.toNat->j<n.toNat->Conn (Zz8 ps (grd n.toNat ps ps.length)) i j:=fun i j hi hj=>Zu6 g (fun z hz=>rgL_mem.mp hz) (h i j hi hj)
  have h1:=(Zz21 (by have:=g.1;omega) (ZJ7 g (Yy7 _))).mpr hc;have h2:=ZA4 g ps.length (Yy7 _)
  have:=g.1
  omega
 ·intro h i j hi hj;exact((Zt6 g h).2.2 i j hi hj).mono (Zx fun z hz=>rgL_mem.mpr (by have:=Zk5 ps.length z hz;omega))
end My
namespace PyProof.Rows
open PySem
abbrev dK:Keyed:=(Value.none,Value.none)
section
variable{O:KeyOrd}{key:Keyed->O.α}{kd:SortKind}
def ke(key:Keyed->O.α)(arr:Array Keyed)(i:Nat):O.α:=key (arr.getD i dK)
def RK(O:KeyOrd)(key:Keyed->O.α)(x y:Keyed):Prop:=O.kle (key x) (key y)
structure MI (O:KeyOrd) (key:Keyed->O.α) (la lb:List Keyed) (out:Array Keyed) (ia ib:Nat):Prop where
 so:out.toList.Pairwise (RK O key)
 oa:∀ x∈out.toList,∀ y∈la.drop ia,RK O key x y
 ob:∀ x∈out.toList,∀ y∈lb.drop ib,RK O key x y
 pm:(out.toList++la.drop ia++lb.drop ib).Perm (la++lb)
abbrev LoS:=Option (Array Keyed) × Array Keyed × Nat × Nat × Nat × Nat × Nat
structure MH (O:KeyOrd) (key:Keyed->O.α) (la lb:List Keyed) (out:Array Keyed) (na nb:Nat):Prop where
 so:out.toList.Pairwise fun x y=>RK O key y x
 oa:∀ x∈la.take na,∀ y∈out.toList,RK O key x y
 ob:∀ x∈lb.take nb,∀ y∈out.toList,RK O key x y
 pm:(la.take na++lb.take nb++out.toList).Perm (la++lb)
abbrev HiS:=Option (Array Keyed) × Nat × Nat × Array Keyed × Nat × Nat × Nat
def offs:List (List Keyed)->Nat->List (Nat × Nat)
 | [],_=>[]
 | g :: gs,o=>(o,g.length) :: offs gs (o+g.length)
structure PI (O:KeyOrd) (key:Keyed->O.α) (kd:SortKind) (a₀:Array Keyed) (st:SortSt) (segs:List (List Keyed)) (rest:List Keyed):Prop where
 kind:kindOf st=kd
 fail:failedOf st=none
 perm:(arrOf st).Perm a₀
 arr:(arrOf st).toList=segs.flatten++rest
 srt:∀ g∈segs,1<=g.length/\g.Pairwise (RK O key)
 pend:(pendingOf st).toList.map (fun p=>(p.1,p.2.1))=offs segs 0
end
end PyProof.Rows
namespace L2
open PySem PySem.Spec PyProof.Rows
section
def sameBut(a:Addr)(h h':Heap):Prop:=∀ b o,b≠a->h.get? b=some o->h'.get? b=some o
end
end L2
namespace L2
open PySem PySem.Spec PyProof.Rows My
theorem ints_uniq:∀ {vs:List Value} {ns ms:List Int},IntsAre vs ns->IntsAre vs ms->ns=ms
 | _,_,_,.nil,.nil=>rfl
 | _,_,_,.cons n t h,.cons _ _ k=>by rw[ints_uniq h k]
end L2
namespace My
open PySem L2
abbrev lexS(a b:List Int):Prop:=HT.lexLt a b=true
theorem Zl8:∀(p a b:List Int),HT.lexLt (p++a) (p++b)=HT.lexLt a b
 | [],a,b=>rfl
 | x :: p,a,b=>by rw[Y1C,Y1C,HT.lexLt_cons,if_pos rfl,Zl8 p]
theorem Zk8:∀ {s t:List Int} (a b:List Int),s.length=t.length->HT.lexLt s t=true->HT.lexLt (s++a) (t++b)=true
 | [],[],a,b,_,h=>by cases h
 | [],_ :: _,a,b,e,_=>by simp at e
 | _ :: _,[],a,b,e,_=>by simp at e
 | x :: s,y :: t,a,b,e,h=>by
  rw[HT.lexLt_cons]at h;rw[Y1C,Y1C,HT.lexLt_cons];split
  ·rename_i q;rw[if_pos q]at h;exact Zk8 a b (by simpa using e) h
  ·rename_i q;rw[if_neg q]at h;exact h
theorem Zu11{a b:List Int}(h:lexS a b):a≠b:=fun e=>by subst e;have:=lex_irrefl a;rw[h]at this;cases this
theorem Zj6{a:List (List Int)}(h:a.Pairwise lexS):a.Nodup:=h.imp fun h=>Zu11 h
theorem Zz54(m:Int):∀ k,∀ l∈cmb m k,l.length=k
 | 0,l,h=>by rw[Yy1.mp h];rfl
 | k+1,l,h=>by obtain⟨s,hs,hl⟩:=Y1i.mp h;obtain⟨t,_,_,rfl⟩:=ext1_mem.mp hl;rw[Yy8,Zz54 m k s hs];rfl
theorem ZI8(m:Int):∀ k,(cmb m k).Pairwise lexS
 | 0=>Y0b ..
 | k+1=>by
  show((cmb m k).flatMap (ext1 m)).Pairwise lexS;rw[List.pairwise_flatMap];refine⟨fun s _=>?_,Y1R (fun {s t} hs ht hst=>?_) (ZI8 m k)⟩
  ·unfold ext1;rw[Y0V];refine Yy11.imp fun {i j} hij=>?_;show HT.lexLt _ _=true
   rw[Zl8,HT.lexLt_cons,if_neg (by omega)];exact Yl (by omega)
  ·intro x hx y hy;obtain⟨u,_,_,rfl⟩:=ext1_mem.mp hx;obtain⟨v,_,_,rfl⟩:=ext1_mem.mp hy;exact Zk8 _ _ (by rw[Zz54 m k s hs,Zz54 m k t ht]) hst
theorem ZM1{α:Type}[DecidableEq α]:∀ {l m:List α},l.Nodup->(∀ x∈l,x∈m)->l.length<=m.length
 | [],m,_,_=>Yj _
 | x :: l,m,h,hs=>by
  obtain⟨h1,h2⟩:=Yy09.mp h;have hx:=hs x Ye
  have:=ZM1 (l:=l) (m:=m.erase x) h2 fun y hy=>(Y2c (fun(e:y=x)=>h1 (e ▸ hy))).mpr (hs y (Yg _ hy))
  rw[Y1Q hx]at this
  have:=Yy21 hx
  rw[YA];omega
end My
namespace L2
open PySem PySem.Spec PyProof.Rows
def Zz514(i j:Int):Prop:=(-(10 ^ 200)<i/\i<10 ^ 200)/\(-(10 ^ 200)<j/\j<10 ^ 200)
theorem ZE3{a:Int}(h1:-(10 ^ 200)<a)(h2:a<10 ^ 200):Builtin.Int.intBits a<=1000:=by
 have h:a.natAbs<10 ^ 200:=by omega
 exact PySem.intBits_le_iff.mpr (Nat.lt_trans h (by decide))
section
variable{X:Cx}
theorem Zl4:OpR X (binaryOp .Mult) (rI Zz514 fun i j=>.int (i * j)):=opI fun _ _ _ _ _ _ _ hc q=>mul_int q (.of_bits (YF (ZE3 hc.1.1 hc.1.2) (by decide)) (YF (ZE3 hc.2.1 hc.2.2) (by decide)))
end
end L2
namespace My
open PySem L2
theorem Zg4{n:Int}{ps:List (Int × Int)}{T:List Int}{z:Int}(g:Zu n ps)(hT:Zd n ps T)(z0:0<=z)(z1:z<(ps.length:Int)):Conn (Zz8 ps (ZV10 n ps T z T)) (Zw ps z).1 (Zw ps z).2:=by
 have he:=Zk1 (z:=z) g z0 z1;have key:∀ D:List Int,(∀ o∈D,o∈T/\z∉cutT n ps T o)->Conn (Zz8 ps (T.filter fun y=>decide (y∉D))) (Zw ps z).1 (Zw ps z).2:=by
  intro D
  induction D with
  | nil =>
   intro _;have e:(T.filter fun y=>decide (y∉([]:List Int)))=T:=Y0Y.mpr fun y _=>by simp
   rw[e];exact hT.2.2 _ _ he.1 he.2
  | cons o D ih =>
   intro hD;have c:=ih fun y hy=>hD y (Yg _ hy)
   obtain⟨hoT,hoc⟩:=hD o Ye;by_cases hoD:o∈D
   ·refine c.mono (Zx fun y hy=>?_);obtain⟨h1,h2⟩:=Yi.mp hy;have h2:=Yt h2
    exact Yi.mpr ⟨h1,Yl fun h=>(Yh.mp h).elim (fun e=>h2 (e ▸ hoD)) h2⟩
   ·refine Yf fun hno=>?_;have hsub:∀ y,y∈(T.filter fun y=>decide (y∉o :: D))->y∈wo T o:=fun y hy=>by
     obtain⟨h1,h2⟩:=Yi.mp hy;have h2:=Yt h2
     exact wo_mem.mpr ⟨h1,fun e=>h2 (by rw[e];exact Ye)⟩
    have c2:Conn (Zz8 ps ((T.filter fun y=>decide (y∉o :: D))++[o])) (Zw ps z).1 (Zw ps z).2:=(ZX fun y=>by
     rw[Yy9,Yi,Yi,Yy1];simp only [Y1U,Yh,not_or];constructor
     ·rintro⟨h1,h2⟩;by_cases e:y=o
      ·exact .inr e
      ·exact .inl ⟨h1,e,h2⟩
     ·rintro(⟨h1,_,h2⟩ | e)
      ·exact⟨h1,h2⟩
      ·rw[e];exact⟨hoT,hoD⟩).mp c
    have hall:∀ y∈(T.filter fun y=>decide (y∉o :: D)),0<=y/\y<(ps.length:Int):=fun y hy=>hT.1.all y (Yi.mp hy).1;obtain⟨o0,o1⟩:=hT.1.all o hoT;have hin:InN n.toNat (Zz8 ps (T.filter fun y=>decide (y∉o :: D))):=ZK g hall
    have hin1:InN n.toNat (Zz8 ps ((T.filter fun y=>decide (y∉o :: D))++[o])):=ZK g fun y hy=>by
     rcases Yy9.mp hy with h | h
     ·exact hall y h
     ·rw[Yy1.mp h];exact⟨o0,o1⟩
    have hoe:=Zk1 (z:=o) g o0 o1;have hl:=ZD n.toNat (Zz8 ps (T.filter fun y=>decide (y∉o :: D)))
    have own:¬ Conn (Zz8 ps (wo T o)) (Zw ps o).1 (Zw ps o).2:=(Zz11 g hT o0 o1).mp ((ZO4 g hT hoT hoT).mpr rfl);have cw:Conn (Zz8 ps (wo T o)) (Zw ps z).1 (Zw ps z).2:=Yf fun h=>hoc ((Zz11 g hT z0 z1).mpr h)
    have up:∀ {i j:Nat},i<n.toNat->j<n.toNat->mk (lms n.toNat (Zz8 ps (T.filter fun y=>decide (y∉o :: D)))) i=mk (lms n.toNat (Zz8 ps (T.filter fun y=>decide (y∉o :: D)))) j->Conn (Zz8 ps (wo T o)) i j:=fun hi hj e=>((ZQ hin hi hj).mp e).mono (Zx hsub);have m:=(ZQ hin1 he.1 he.2).mpr c2
    rw[Zz41,Zg1,Zh6 (by omega) (by omega)]at m;rcases m with m | ⟨m1,m2⟩
    ·exact hno ((ZQ hin he.1 he.2).mp m)
    ·rcases m1 with m1 | m1 <;> rcases m2 with m2 | m2
     ·exact hno ((ZQ hin he.1 he.2).mp (m1.trans m2.symm))
     ·exact own (((up he.1 hoe.1 m1).symm.trans cw).trans (up he.2 hoe.2 m2))
     ·exact own (((up he.2 hoe.1 m2).symm.trans cw.symm).trans (up he.1 hoe.2 m1))
     ·exact hno ((ZQ hin he.1 he.2).mp (m1.trans m2.symm))
 have c:=key (T.filter fun y=>decide (z∉cutT n ps T y)) fun o ho=>by obtain⟨h1,h2⟩:=Yi.mp ho;exact⟨h1,Yt h2⟩
 refine c.mono (Zx fun y hy=>?_);obtain⟨h1,h2⟩:=Yi.mp hy;have h2:=Yt h2
 exact ringA_mem.mpr ⟨h1,Yf fun h=>h2 (Yi.mpr ⟨h1,Yl h⟩)⟩
inductive WP (n:Int) (ps:List (Int × Int)) (W:List Int) (T0:List Int):List Int->List (Int × Int)->List Int->Prop
 | nil:WP n ps W T0 [] [] T0
 | skip {l:List Int} {ws:List (Int × Int)} {T:List Int} {z:Int}:WP n ps W T0 l ws T->z∈T->WP n ps W T0 (l++[z]) ws T
 | step {l:List Int} {ws:List (Int × Int)} {T T':List Int} {z o:Int}:WP n ps W T0 l ws T->z∉T->o∈ZV10 n ps T z T->o∉W->(∀ y∈ZV10 n ps T z T,y∉W->o<=y)->T'.Perm (wo T o++[z])->T'.Pairwise (·<=·)->WP n ps W T0 (l++[z]) (ws++[(o,z)]) T'
theorem Zz65{a b:List Int}(ha:a.Pairwise (· < ·))(hb:b.Pairwise (· < ·))(h:∀ z,z∈a↔z∈b):a=b :=
 (ZC2 ha hb fun z hz=>(h z).mp hz).eq_of_length (Y2P (ZC2 ha hb fun z hz=>(h z).mp hz).length_le (ZC2 hb ha fun z hz=>(h z).mpr hz).length_le)
theorem ZP4{xs:List V}{i:Int}(h0:0<=i):cutV xs (some i) none=xs.drop i.toNat:=by
 have e:HT.sIx xs.length 0 (some i)=min i.toNat xs.length:=by show(if i<0 then (i+(xs.length:Int)).toNat else min i.toNat xs.length)=_;rw[if_neg (by omega)]
 unfold cutV;rw[e,HT.sIx_none,Y0g (by rw[Y2H];exact Yy7 _)];by_cases h:i.toNat<=xs.length
 ·rw[Nat.min_eq_left h]
 ·rw[Nat.min_eq_right (by omega),Yy12 (Yy7 _),Yy12 (by omega)]
def cutz{α:Type}(l:List α)(z:Int):List α:=l.take z.toNat++l.drop (z.toNat+1)
theorem ZZ13{xs:List V}{z:Int}(h0:0<=z):cutV xs none (some z)++cutV xs (some (z+1)) none=cutz xs z:=by rw[ZR6 h0,ZP4 (by omega),show(z+1).toNat=z.toNat+1 by omega];rfl
theorem Za10{α:Type}(l:List α)(z:Int):(cutz l z).length<=l.length:=by unfold cutz;rw[Yy8,Yz,Y2H];omega
def dn(lo hi i:Int):Int:=if i=hi then lo else if i<hi then i else i - 1
theorem Ze8{n i:Nat}(h:i<n):(rgL n)[i]?=some (i:Int):=by unfold rgL;rw[Ym,Y0k h];rfl
theorem ZM5(i:Nat):rgL (i+1)=rgL i++[(i:Int)]:=by unfold rgL;rw[Y0W,YE];rfl
end My
namespace L2
open PySem PySem.Spec PyProof.Rows
section
variable{X:Cx}
def rIxQ(K:PySem.W.Frag):R2:=fun x y H Q=>∃(k:Bool) (p:Addr) (xs:List V) (i:Int) (v:V),x=.ref p/\y=.int i/\My.SqK k K H p xs/\atI xs i=some v/\Q v H
theorem Zt4(K:PySem.W.Frag)(h:X.K=K:=by rfl):IxR X (rIxQ K):=by
 intro value slice pins s σ H x y v u Q I rx ry h1 hs;obtain⟨k,p,xs,i,z,e1,e2,hq,he,q⟩:=h1;cases k with
 | false=>exact Zm K h value slice pins s σ H x y v u Q I rx ry ⟨p,xs,i,z,e1,e2,hq,he,q⟩ hs
 | true=>exact ZF K h value slice pins s σ H x y v u Q I rx ry ⟨p,xs,i,z,e1,e2,hq,he,q⟩ hs
end
theorem Zz87{N a b:St->Hp->Prop}{r:VK}{σ:St}{H:Hp}(h:N σ H):Ends.nx { nx:=N,rt:=r,bk:=a,ct:=b } σ H:=h
theorem Zz114{c:TT}{t u:TS}{N a b:St->Hp->Prop}{r:VK}{σ:St}{H:Hp}(P:St->Hp->Prop)(h1:∀ σ' H',P σ' H'->N σ' H')(h2:∀ K:St->Hp->Prop,(∀ σ' H',P σ' H'->K σ' H')->tIfS c t u { nx:=K,rt:=r,bk:=a,ct:=b } σ H):tIfS c t u { nx:=N,rt:=r,bk:=a,ct:=b } σ H:=h2 _ h1
end L2
namespace My
theorem len1{α:Type}{l:List α}(h:l.length=1):∃ a,l=[a]:=by
 cases l with
 | nil=>cases h
 | cons a l=>cases l with
  | nil=>exact⟨a,rfl⟩
  | cons b l=>simp at h
theorem len2{α:Type}{l:List α}(h:l.length=2):∃ a b,l=[a,b]:=by
 cases l with
 | nil=>cases h
 | cons a l =>
  obtain⟨b,rfl⟩:=len1 (Y1d h);exact⟨a,b,rfl⟩
theorem len3{α:Type}{l:List α}(h:l.length=3):∃ a b c,l=[a,b,c]:=by
 cases l with
 | nil=>cases h
 | cons a l =>
  obtain⟨b,c,rfl⟩:=len2 (Y1d h);exact⟨a,b,c,rfl⟩
theorem len4{α:Type}{l:List α}(h:l.length=4):∃ a b c d,l=[a,b,c,d]:=by
 cases l with
 | nil=>cases h
 | cons a l =>
  obtain⟨b,c,d,rfl⟩:=len3 (Y1d h);exact⟨a,b,c,d,rfl⟩
end My
namespace My
open PySem L2
theorem Conn.lift{es fs:List (Nat × Nat)}(h:∀ e∈es,Conn fs e.1 e.2){i j:Nat}(c:Conn es i j):Conn fs i j:=by
 induction c with
 | refl i=>exact .refl i
 | edge e=>exact h _ e
 | symm _ ih=>exact ih.symm
 | trans _ _ ih1 ih2=>exact ih1.trans ih2
theorem ZA1{n:Int}{ps:List (Int × Int)}{T W:List Int}{z:Int}(g:Zu n ps)(hT:Zd n ps T)(hW:Zd n ps W)(hz:z∈T)(hzW:z∉W):∃ y,exg n ps T z y/\exg n ps W y z:=by
 obtain⟨z0,z1⟩:=hT.1.all z hz;refine Yf fun hno=>?_;refine(Zz11 g hT z0 z1).mp ((ZO4 g hT hz hz).mpr rfl) ((Zg4 g hW z0 z1).lift fun e he=>?_);unfold Zz8 at he;obtain⟨y,hy,rfl⟩:=Yr.mp he;obtain⟨hyW,hyc⟩:=ringA_mem.mp hy;obtain⟨y0,y1⟩:=hW.1.all y hyW;have hyz:y≠z:=fun e=>hzW (e ▸ hyW)
 have:=(Zz11 (o:=z) g hT y0 y1)
 exact Yf fun h=>hno ⟨y,⟨hz,hyz,this.mpr h⟩,⟨hyW,Yy03 hyz,hyc⟩⟩
theorem Zf3(l:List Int):∃ m:List Int,m.Perm l/\m.Pairwise (·<=·):=by
 induction l with
 | nil=>exact⟨[],.refl _,.nil⟩
 | cons x l ih =>
  obtain⟨m,h1,h2⟩:=ih;have key:∀ m:List Int,m.Pairwise (·<=·)->∃ k:List Int,k.Perm (x :: m)/\k.Pairwise (·<=·):=by
   intro m
   induction m with
   | nil=>intro _;exact⟨[x],.refl _,Y0b _ _⟩
   | cons y m ih2 =>
    intro hp;obtain⟨hy,hm⟩:=Yy01.mp hp;by_cases hxy:x<=y
    ·refine⟨x :: y :: m,.refl _,Yy01.mpr ⟨fun z hz=>?_,hp⟩⟩;rcases Yh.mp hz with e | e
     ·rw[e];exact hxy
     ·exact Int.le_trans hxy (hy z e)
    ·obtain⟨k,k1,k2⟩:=ih2 hm;refine⟨y :: k,(k1.cons y).trans (List.Perm.swap x y m),Yy01.mpr ⟨fun z hz=>?_,k2⟩⟩;rcases Yh.mp (k1.mem_iff.mp hz) with e | e
     ·rw[e];omega
     ·exact hy z e
  obtain⟨k,k1,k2⟩:=key m h2;exact⟨k,k1.trans (h1.cons x),k2⟩
inductive Wk (n:Int) (ps:List (Int × Int)) (T0:List Int):List (Int × Int)->List Int->Prop
 | nil:Wk n ps T0 [] T0
 | step {ws:List (Int × Int)} {T T':List Int} {o z:Int}:Wk n ps T0 ws T->exg n ps T o z->T'.Perm (wo T o++[z])->T'.Pairwise (·<=·)->Wk n ps T0 (ws++[(o,z)]) T'
theorem Zg10{M N:List Int}(s:SameP M N):cnt M=cnt N:=by
 unfold cnt fstA;rw[<- s.1];refine Yy04 List.length (Y1b fun p hp=>?_);have hp:=YD.mp hp
 rw[Y0h,fstB_iff,fstB_iff];constructor
 ·intro h i hi e;exact h i hi ((s.2 i p (by omega) hp).mpr e)
 ·intro h i hi e;exact h i hi ((s.2 i p (by omega) hp).mp e)
theorem Zu3{n:Int}{ps:List (Int × Int)}{U:List Int}(g:Zu n ps)(hU:Zd n ps U):∀ V:List Int,V.Nodup->(∀ z∈V,z∈U)->grw n.toNat ps V=V:=by
 refine Zz51 (fun _ _=>rfl) fun V z ih hn hs=>?_;have hn':=Yy06.mp hn
 have hV:∀ y∈V,y∈U:=fun y hy=>hs y (Yk _ hy);have hz:z∈U:=hs z (Yd _ (Yy1.mpr rfl))
 have hzV:z∉V:=fun h=>hn'.2.2 z h z (Yy1.mpr rfl) rfl;obtain⟨z0,z1⟩:=hU.1.all z hz;have he:=Zk1 (z:=z) g z0 z1
 rw[Zh1,ih hn'.1 hV];unfold gst;rw[if_neg];intro e;have c:=(ZQ (ZK g fun y hy=>hU.1.all y (hV y hy)) he.1 he.2).mp e
 exact(Zz11 g hU z0 z1).mp ((ZO4 g hU hz hz).mpr rfl) (c.mono (Zx fun y hy=>wo_mem.mpr ⟨hV y hy,fun e'=>hzV (by rw[<- e'];exact hy)⟩))
theorem ZR9{n:Int}{ps:List (Int × Int)}{as bs:List Int}{z:Int}(g:Zu n ps)(h:∀ y∈as,0<=y/\y<(ps.length:Int))(z0:0<=z)(z1:z<(ps.length:Int))(hz:z∉grw n.toNat ps (as++z :: bs)):Conn (Zz8 ps (grw n.toNat ps as)) (Zw ps z).1 (Zw ps z).2:=by
 obtain⟨us,e,_⟩:=Zx4 n.toNat ps (as++[z]) bs;rw[Y0f]at e;have e:grw n.toNat ps (as++z :: bs)=grw n.toNat ps (as++[z])++us:=e
 rw[e,Zh1]at hz;have he:=Zk1 (z:=z) g z0 z1
 refine(ZQ (Zj5 g h) he.1 he.2).mp (Yf fun hne=>hz ?_);unfold gst;rw[if_neg hne];exact Yk _ (Yd _ (Yy1.mpr rfl))
theorem ZQ9{n:Nat}{ps:List (Int × Int)}{as bs:List Int}{y:Int}(h:y∈grw n ps as):y∈grw n ps (as++bs):=by obtain⟨us,e,_⟩:=Zx4 n ps as bs;rw[e];exact Yk _ h
def Fr(n:Nat)(ps:List (Int × Int))(l:List Int):Bool:=decide (grw n ps l=l)
def frs(n:Nat)(ps:List (Int × Int))(k:Nat):List (List Int):=(cmb (ps.length:Int) k).filter (Fr n ps)
theorem ZV9{n:Int}{ps:List (Int × Int)}(g:Zu n ps){l:List Int}:l∈frs n.toNat ps (n - 1).toNat↔Zd n ps l:=by
 unfold frs;rw[Yi,cmb_mem];have g1:=g.1
 constructor
 ·rintro⟨⟨h1,h2⟩,h3⟩;have e:grw n.toNat ps l=l:=Yt h3
  have c:=Zw4 g l h2.all;rw[e]at c;exact⟨h2,by omega,(Zz21 (by omega) (ZK g h2.all)).mp (by omega)⟩
 ·intro h;exact⟨⟨by have:=h.2.1;omega,h.1⟩,Yl (Zu3 g h l h.1.nodup fun z hz=>hz)⟩
theorem ZS8{f:Int->Int}{a b:List Int}(h:a.Perm b):(a.map f).sum=(b.map f).sum:=by
 induction h with
 | nil=>rfl
 | cons x _ ih=>rw[YI,YI,Yy05,Yy05,ih]
 | swap x y l=>rw[YI,YI,YI,YI,Yy05,Yy05,Yy05,Yy05];omega
 | trans _ _ i1 i2=>exact i1.trans i2
theorem Zp12{l:List Int}{o:Int}(h:o∉l):wo l o=l:=Y0Y.mpr fun y hy=>Yl fun e=>h (e ▸ hy)
theorem Zv12{f:Int->Int}{o:Int}:∀ {l:List Int},l.Nodup->o∈l->((wo l o).map f).sum+f o=(l.map f).sum:=by
 intro l
 induction l with
 | nil=>intro _ h;cases h
 | cons x l ih =>
  intro hn ho;obtain⟨hx,hn⟩:=Yy09.mp hn;by_cases e:x=o
  ·subst e;have h1:wo (x :: l) x=l:=by have h2:wo (x :: l) x=wo l x:=Y0p (by simp);rw[h2,Zp12 hx]
   rw[h1,YI,Yy05];omega
  ·have h2:wo (x :: l) o=x :: wo l o:=Y0o (Yl e);have hm:o∈l:=by
    rcases Yh.mp ho with h | h
    ·exact absurd h.symm e
    ·exact h
   have:=ih hn hm
   rw[h2,YI,Yy05,YI,Yy05];omega
theorem Zz58{f:Int->Int}{T m:List Int}{o z:Int}(hn:T.Nodup)(ho:o∈T)(h:m.Perm (wo T o++[z])):(m.map f).sum+f o=(T.map f).sum+f z:=by
 have h1:=Zv12 (f:=f) hn ho;rw[ZS8 h,YE,List.sum_append];show _+(f z+0)+_=_
 omega
theorem ZQ7{p q:Int->Bool}{x:Int}:∀ {l:List Int},(∀ y∈l,p y=true->q y=true)->x∈l->q x=true->p x=false->(l.filter p).length<(l.filter q).length:=by
 intro l
 induction l with
 | nil=>intro _ h;cases h
 | cons y l ih =>
  intro h hx hq hp;have h':∀ y∈l,p y=true->q y=true:=fun z hz=>h z (Yg _ hz)
  have le:(l.filter p).length<=(l.filter q).length:=by
   have e:l.filter p=(l.filter q).filter p:=by
    rw[List.filter_filter];refine Y1b fun z hz=>?_;cases e:p z with
    | false=>rfl
    | true=>rw[h' z hz e];rfl
   rw[e];exact Y0a ..
  rcases Yh.mp hx with e | e
  ·subst e;rw[Y0p (by rw[hp];decide),Y0o hq,YA];omega
  ·have:=ih h' e hq hp
   rw[Yy07,Yy07];cases e1:p y with
   | true =>
    rw[h y (Ye ..) e1];show(List.filter p l).length+1<(List.filter q l).length+1
    omega
   | false =>
    cases q y with
    | true=>show(List.filter p l).length<(List.filter q l).length+1;omega
    | false=>exact this
theorem ZF1{n:Int}{ps:List (Int × Int)}{T:List Int}(hT:Zd n ps T):T.Pairwise (· < ·):=(isSet_iff.mp hT.1).2
theorem Zz45{T:List Int}(h:T.Pairwise (· < ·)):T.Nodup:=h.imp fun h e=>by omega
theorem ZM7{n:Int}{ps:List (Int × Int)}{T:List Int}(f:Int->Int)(g:Zu n ps)(hT:Zd n ps T):(∀ o z,exg n ps T o z->f o<=f z)↔∀ W,Zd n ps W->(T.map f).sum<=(W.map f).sum:=by
 constructor
 ·intro h;have key:∀(k:Nat) (W:List Int),Zd n ps W->(T.filter fun y=>decide (y∉W)).length<=k->(T.map f).sum<=(W.map f).sum:=by
   intro k
   induction k with
   | zero =>
    intro W hW hk;have he:=Yy24.mp (List.eq_nil_of_length_eq_zero (Nat.le_zero.mp hk))
    have hs:=ZC2 (ZF1 hT) (ZF1 hW) fun y hy=>by
     have:=he y hy
     simpa using this
    rw[hs.eq_of_length (by have:=hT.2.1;have:=hW.2.1;omega)];exact Y0v _
   | succ k ih =>
    intro W hW hk;by_cases hz:∃ z,z∈T/\z∉W
    ·obtain⟨z,hz,hzW⟩:=hz;obtain⟨y,x1,x2⟩:=ZA1 g hT hW hz hzW;obtain⟨m,h1,h2⟩:=Zf3 (wo W y++[z]);have hm:=Zj2 g hW x2 h1 h2
     have hyT:=((Zy3 g hT).mp x1).2.1;have e:=Zz58 (f:=f) (Zz45 (ZF1 hW)) x2.1 h1
     have hzm:z∈m:=h1.mem_iff.mpr (Yd _ (Yy1.mpr rfl));have hl:(T.filter fun y=>decide (y∉m)).length<(T.filter fun y=>decide (y∉W)).length:=by refine ZQ7 (x:=z) (fun x hx hp=>?_) hz (Yl hzW) (YW fun h=>h hzm);refine Yl fun hxW=>(Yt hp) (h1.mem_iff.mpr (Yk _ (wo_mem.mpr ⟨hxW,fun e=>hyT (e ▸ hx)⟩)))
     have i:=ih m hm (by omega)
     have:=h z y x1
     omega
    ·refine ih W hW ?_
     have:(T.filter fun y=>decide (y∉W))=[]:=Yy24.mpr fun y hy hd=>hz ⟨y,hy,Yt hd⟩
     rw[this];exact Yj _
  exact fun W hW=>key _ W hW (Yy7 _)
 ·intro h o z hx;obtain⟨m,h1,h2⟩:=Zf3 (wo T o++[z]);have hm:=h m (Zj2 g hT hx h1 h2)
  have e:=Zz58 (f:=f) (Zz45 (ZF1 hT)) hx.1 h1;omega
def gnB(ls:List Int)(p:Int × Int):Bool:=decide (ls.getD p.2.toNat 0<ls.getD p.1.toNat 0)
def gns(n:Int)(ps:List (Int × Int))(ls ts:List Int):List (Int × Int):=(exs n ps ts ts).filter (gnB ls)
theorem ZT9{n:Int}{ps:List (Int × Int)}{ls ts:List Int}(g:Zu n ps)(hT:Zd n ps ts):gns n ps ls ts=[]↔∀ W,Zd n ps W->(ts.map fun z=>ls.getD z.toNat 0).sum<=(W.map fun z=>ls.getD z.toNat 0).sum:=by
 rw[<- ZM7 (fun z=>ls.getD z.toNat 0) g hT];constructor
 ·intro h o z hx;refine Yf fun hc=>?_;have hm:(o,z)∈gns n ps ls ts:=Yi.mpr ⟨Y1i.mpr ⟨o,hx.1,Yr.mpr ⟨z,wo_mem.mpr ⟨hx.2.2,hx.2.1⟩,rfl⟩⟩,Yl (by show ls.getD z.toNat 0<ls.getD o.toNat 0;omega)⟩
  rw[h]at hm;cases hm
 ·intro h;refine Y1u.mpr fun p hp=>?_;obtain⟨h1,h2⟩:=Yi.mp hp;obtain⟨o',ho,h3⟩:=Y1i.mp h1;obtain⟨z',hz,rfl⟩:=Yr.mp h3;obtain⟨h4,h5⟩:=wo_mem.mp hz;have h6:=h o' z' ⟨ho,h5,h4⟩
  have h7:ls.getD z'.toNat 0<ls.getD o'.toNat 0:=Yt h2;omega
theorem srt_strict{a:List Int}(h:a.Pairwise (·<=·))(hn:a.Nodup):a.Pairwise (· < ·):=(h.and hn).imp fun h=>by have:=h.1;have:=h.2;omega
theorem ZX2{n:Int}{ps:List (Int × Int)}(g:Zu n ps):∀ zs:List Int,(∀ z∈zs,0<=z/\z<(ps.length:Int))->(grw n.toNat ps zs).Nodup:=by
 refine Zz51 (fun _=>List.Pairwise.nil) fun zs z ih hb=>?_;have hb':∀ y∈zs,0<=y/\y<(ps.length:Int):=fun y hy=>hb y (Yk _ hy)
 obtain⟨z0,z1⟩:=hb z (Yd _ (Yy1.mpr rfl));have he:=Zk1 (z:=z) g z0 z1
 rw[Zh1];unfold gst;split
 ·exact ih hb'
 ·next hne =>
  refine Yy06.mpr ⟨ih hb',by simp,fun a ha b hbb e=>?_⟩;rw[Yy1.mp hbb]at e;subst e;refine hne ((ZQ (Zj5 g hb') he.1 he.2).mpr (.edge ?_));exact Yr.mpr ⟨a,ha,rfl⟩
theorem Zi5{n:Int}{ps:List (Int × Int)}{zs ms:List Int}(g:Zu n ps)(hb:∀ z∈zs,0<=z/\z<(ps.length:Int))(hl:¬ ((grw n.toNat ps zs).length:Int)<n - 1)(hpm:ms.Perm (grw n.toNat ps zs))(hpw:ms.Pairwise (·<=·)):Zd n ps ms:=by
 have g1:=g.1;have h2:=Zw4 g zs hb
 have h3:=ZT4 (M:=lms n.toNat (Zz8 ps (grw n.toNat ps zs))) (by rw[ZD];omega);have hcov:=(Zz21 (by omega) (Zj5 g hb)).mp (by omega)
 refine⟨isSet_iff.mpr ⟨fun z hz=>hb z ((Zv4 _ _ _).subset (hpm.mem_iff.mp hz)),srt_strict hpw (hpm.nodup_iff.mpr (ZX2 g zs hb))⟩,by rw[hpm.length_eq];omega,fun i j hi hj=>?_⟩;exact(ZX fun y=>hpm.mem_iff).mpr (hcov i j hi hj)
theorem ZI11{n:Int}{ps:List (Int × Int)}{I os U:List Int}(g:Zu n ps)(hU:Zd n ps U)(hI:I.Nodup)(hIU:∀ z∈I,z∈U)(hUo:∀ z∈U,z∈I++os)(hb:∀ z∈I++os,0<=z/\z<(ps.length:Int)):(grw n.toNat ps (I++os)).take I.length=I/\¬ ((grw n.toNat ps (I++os)).length:Int)<n - 1:=by
 have g1:=g.1;obtain⟨us,e,_⟩:=Zx4 n.toNat ps I os;rw[Zu3 g hU I hI hIU]at e;refine⟨by rw[e,List.take_left],?_⟩;have hcov:∀ i j,i<n.toNat->j<n.toNat->Conn (Zz8 ps (grw n.toNat ps (I++os))) i j:=fun i j hi hj=>ZS9 g _ hb ((hU.2.2 i j hi hj).mono (Zx hUo))
 have h1:=(Zz21 (by omega) (Zj5 g hb)).mpr hcov;have h2:=Zw4 g (I++os) hb
 omega
theorem Zz08{p r:List Int}{x:Int}(h:(p++x :: r).Pairwise (· < ·)):(∀ z∈p,z<x)/\∀ z∈x :: r,x<=z:=by
 have a:=YY.mp h;refine⟨fun z hz=>a.2.2 z hz x Ye,fun z hz=>?_⟩;rcases Yh.mp hz with h | h
 ·rw[h];exact Y0v _
 ·exact Int.le_of_lt ((Yy01.mp a.2.1).1 z h)
def TC(n:Int)(ps:List (Int × Int))(c:Nat):Prop:=∃ L:List (List Int),L.Nodup/\(∀ l,l∈L↔Zd n ps l)/\L.length=c
theorem TC.uniq{n:Int}{ps:List (Int × Int)}{c d:Nat}(h1:TC n ps c)(h2:TC n ps d):c=d:=by obtain⟨L,a1,a2,rfl⟩:=h1;obtain⟨M,b1,b2,rfl⟩:=h2;exact((Y0r a1 b1).mpr fun l=>by rw[a2,b2]).length_eq
theorem set_snoc{m:Nat}{T:List Int}:IsSet (m+1) (T++[(m:Int)])↔IsSet m T:=by
 constructor
 ·intro h;have a:=isSet_iff.mp h
  have b:=YY.mp a.2;refine isSet_iff.mpr ⟨fun z hz=>?_,b.1⟩;have c:=a.1 z (Yk _ hz)
  have d:=b.2.2 z hz m (Yy1.mpr rfl);omega
 ·exact fun h=>h.snoc
theorem ZL5{m:Nat}{T:List Int}(h:IsSet (m+1) T):IsSet m T\/∃ T',T=T'++[(m:Int)]/\IsSet m T':=by
 have a:=isSet_iff.mp h;by_cases hm:(m:Int)∈T
 ·obtain⟨p,r,e⟩:=List.append_of_mem hm;have b:=Zz08 (e ▸ a.2)
  cases r with
  | nil=>exact .inr ⟨p,e,set_snoc.mp (e ▸ h)⟩
  | cons y r =>
   have h1:=a.1 y (by rw[e];simp);have h2:=(Yy01.mp (YY.mp (e ▸ a.2)).2.1).1 y Ye
   omega
 ·refine .inl (isSet_iff.mpr ⟨fun z hz=>?_,a.2⟩);have h1:=a.1 z hz
  have h2:z≠(m:Int):=fun e=>hm (e ▸ hz);omega
theorem ZR4{es:List (Nat × Nat)}{a b i j:Nat}(c:Conn (es++[(a,b)]) i j):Conn (es++[(b,a)]) i j:=c.lift fun e he=>by
 rcases Yy9.mp he with q | q
 ·exact .edge (Yk _ q)
 ·rw[Yy1.mp q];exact .symm (.edge (by simp))
theorem Bears.app{α:Type}[DecidableEq α]{R:V->α->Prop}{xs ys:List V}{l m:List α}(h:Bears R xs l)(h2:Bears R ys m):Bears R (xs++ys) (l++m):=by
 refine⟨by rw[Yy8,Yy8,h.1,h2.1],fun i a e=>?_⟩;have hl:=h.1
 by_cases c:i<l.length
 ·rw[Yx c]at e;obtain⟨x,e1,r⟩:=h.2 i a e;exact⟨x,by rw[Yx (by omega)];exact e1,r⟩
 ·rw[Yy (by omega)]at e;obtain⟨x,e1,r⟩:=h2.2 _ a e;exact⟨x,by rw[Yy (by omega),hl];exact e1,r⟩
theorem PairsV.set{H:Hp}{xs:List V}{ps:List (Int × Int)}{v:V}{p:Int × Int}(h:PairsV H xs ps)(i:Nat)(q:PairV H v p):PairsV H (xs.set i v) (ps.set i p):=by
 refine⟨by rw[Y0A,Y0A];exact h.1,fun j x e=>?_⟩;have hl:=h.1
 by_cases c:i=j
 ·subst c;rw[Y0x]at e;rw[if_pos rfl]at e;by_cases hlt:i<ps.length
  ·rw[if_pos hlt]at e;obtain rfl:=Yc e;exact⟨v,by rw[Y0x,if_pos rfl,if_pos (by omega)],q⟩
  ·rw[if_neg hlt]at e;cases e
 ·rw[Y0x,if_neg c]at e;obtain⟨w,e1,r⟩:=h.2 j x e;exact⟨w,by rw[Y0x,if_neg c];exact e1,r⟩
end My
namespace L2
open PySem PySem.Spec PyProof.Rows
def Itz(K:PySem.W.Frag)(a b:Addr):It :=
 ⟨fun i H=>∃ xs ys x y,SqL K H a xs/\SqL K H b ys/\xs[i]?=some x/\ys[i]?=some y,fun i H v H'=>∃ T x y,H T=none/\v=.ref T/\H'=upd H T (.tup [x,y])/\(∀ xs,SqL K H a xs->xs[i]?=some x)/\∀ ys,SqL K H b ys->ys[i]?=some y,
  fun i H=>∃ xs ys,SqL K H a xs/\SqL K H b ys/\(xs.length<=i\/ys.length<=i)⟩
theorem ZQ8{P:Program}{w:World}{K:PySem.W.Frag}{elts:List Expr}{x1:Nat}{pos:Pos}(a b z TI TO i1 i2:Addr)(D:ZipApart z TI TO i1 i2 a b) :
  Turn P w K (.Tuple elts x1 pos) (Itz K a b) [z,TI,TO,i1,i2] z (fun i h=>IsZip h z TI TO .none/\IsPair h TI (.ref i1) (.ref i2)/\(∃ c d,IsPair h TO c d)/\h.IsListIter i1 a i/\h.IsListIter i2 b i) where
 mem:=by simp
 obj:=fun i h st c hc=>by
  obtain⟨hz,hTI,⟨u,v,hTO⟩,⟨o1,e1,_,d1⟩,⟨o2,e2,_,d2⟩⟩:=st;have hc':c=z\/c=TI\/c=TO\/c=i1\/c=i2:=by simpa using hc
  rcases hc' with rfl | rfl | rfl | rfl | rfl
  ·exact⟨_,hz,fun v q=>by have q':Data.fields _=Data.cell v:=q;cases q'⟩
  ·exact⟨_,hTI,fun v q=>by have q':Data.seq _ _=Data.cell v:=q;cases q'⟩
  ·exact⟨_,hTO,fun v q=>by have q':Data.seq _ _=Data.cell v:=q;cases q'⟩
  ·exact⟨o1,e1,fun v q=>by rw[d1]at q;cases q⟩
  ·exact⟨o2,e2,fun v q=>by rw[d2]at q;cases q⟩
 keep:=fun i h h' st k=>by obtain⟨hz,hTI,⟨u,v,hTO⟩,h1,h2⟩:=st;exact⟨k z (by simp) _ hz,k TI (by simp) _ hTI,⟨u,v,k TO (by simp) _ hTO⟩,h1.at fun o e=>k i1 (by simp) o e,h2.at fun o e=>k i2 (by simp) o e⟩
 item:=by
  intro X hP hw hK hc i pins s σ H E I hf st hg;subst hP hw hK;obtain⟨xs,ys,x,y,hq,hq2,hx,hy⟩:=hg;obtain⟨hz,hTI,⟨u0,v0,hTO⟩,h1,h2⟩:=st;obtain⟨its,rv,p,_⟩:=I.list hq;obtain⟨u,hu,ru⟩:=rv.get hx;obtain⟨its2,rv2,p2,_⟩:=I.list hq2;obtain⟨v,hv,rv'⟩:=rv2.get hy;have fz:=hf z (by simp)
  have fTO:=hf TO (by simp);have fi1:=hf i1 (by simp)
  have fi2:=hf i2 (by simp);have hT0:H s.heap.objs.size=none:=I.hok.fresh (Yy7 _)
  refine wpAny_pyNext_zip_item D hz hTI hTO h1 h2 p.isList p2.isList (x:=u) (y:=v) (by simpa using hu) (by simpa using hv) fun h' a1 a2 a3 a4 a5 hsz hk=>?_;have ltT:∀ b ob,s.heap.get? b=some ob->b≠s.heap.objs.size:=fun b ob z=>Yu (Yp z)
  have ltH:∀ b ob,H b=some ob->b≠s.heap.objs.size:=fun b ob z=>Yu (I.hok.lt z);have nof:∀ c ob,H c=some ob->c≠z/\c≠TO/\c≠i1/\c≠i2:=fun c ob q=>⟨fun e=>(by rw[e,fz.1]at q;cases q),fun e=>(by rw[e,fTO.1]at q;cases q),fun e=>(by rw[e,fi1.1]at q;cases q),fun e=>(by rw[e,fi2.1]at q;cases q)⟩
  have hkc:∀ c o,c∉[z,TO,i1,i2]->s.heap.get? c=some o->h'.get? c=some o:=fun c o hcx q=>hk c o (fun e=>hcx (by simp[e])) (fun e=>hcx (by simp[e])) (fun e=>hcx (by simp[e])) (fun e=>hcx (by simp[e])) q;have I1:Inv X pins σ (upd H s.heap.objs.size (.tup [x,y])) { s with heap:=h' }:=by
   refine I.step (g':=s.gens) (d':=s.drawn) (t':=s.toks) (ch:=[z,TO,i1,i2]) (fun c hb=>?_) (fun c o _ _ hcx q _=>hkc c o hcx q) (fun c o _ _ hcx q _=>⟨o.slots,hkc c o hcx q⟩)
    (fun c o _ q n=>by rw[Zc (ltT c o q)];exact n) (fun c o hcx q=>⟨o,hkc c o hcx q⟩) (fun c ys q=>by rw[Zc (ltH c _ q)];exact q) (fun c o v q=>by rw[Zc (ltH c _ q)];exact q)
    (fun c ps q=>⟨#[],by rw[Zc (ltH c _ q),q];simp⟩) (fun m hm=>?_) (fun c v' q=>?_) I.bare
   ·have hc':c=z\/c=TO\/c=i1\/c=i2:=by simpa using hb
    rcases hc' with rfl | rfl | rfl | rfl
    ·exact⟨fz.2.2.2.1,fz.2.1,fz.2.2.2.2.1,fz.2.2.2.2.2⟩
    ·exact⟨fTO.2.2.2.1,fTO.2.1,fTO.2.2.2.2.1,fTO.2.2.2.2.2⟩
    ·exact⟨fi1.2.2.2.1,fi1.2.1,fi1.2.2.2.2.1,fi1.2.2.2.2.2⟩
    ·exact⟨fi2.2.2.2.1,fi2.2.1,fi2.2.2.2.2.1,fi2.2.2.2.2.2⟩
   ·obtain⟨o,es,ep,ho',r⟩:=hm;exact⟨o,es,ep,hk _ o (Yy03 fz.2.1) (Yy03 fTO.2.1) (Yy03 fi1.2.1) (Yy03 fi2.2.1) ho',r⟩
   ·by_cases hb:c=s.heap.objs.size
    ·subst hb;rw[Zz1]at q;cases q;exact⟨by show 2<=sizeLine;decide,[u,v],.cons ru (.cons rv' .nil),⟨_,a5,rfl,_,rfl⟩⟩
    ·rw[Zc hb]at q;refine(I.hok c v' q).stay (fun e w' hc' q'=>?_) (fun e q=>by rw[Zc (ltH e _ q)];exact q) fun e ys q=>by rw[Zc (ltH e _ q)];exact q
     rcases hc' with rfl | hc'
     ·have:=nof e _ q
      exact hk e w' this.1 this.2.1 this.2.2.1 this.2.2.2 q'
     ·have:=nof e _ hc'
      exact hk e w' this.1 this.2.1 this.2.2.1 this.2.2.2 q'
  refine⟨_,rfl,wpAny_letOwnedTupleGo_zip a1 fun h2 hz2 hs2=>?_⟩;have fT:z≠s.heap.objs.size:=ltT z _ hz
  have I2:Inv X pins σ (upd H s.heap.objs.size (.tup [x,y])) { s with heap:=h2 }:=Inv.turned (s:={ s with heap:=h' }) (h':=h2) (t':=s.toks) (it:=z) I1 (fun b o hb q=>hs2.extBut b o hb q) (by rw[Zc fT];exact fz.1) fz.2.1 fz.2.2.2.1 fz.2.2.2.2.1 fz.2.2.2.2.2;refine⟨.ref s.heap.objs.size,_,I2,rfl,⟨_,x,y,hT0,rfl,rfl,fun ys hy'=>by rw[I.list_inj hy' hq];exact hx,fun ys hy'=>by rw[I.list_inj hy' hq2];exact hy⟩,
   ⟨hz2,hs2.extBut _ _ D.TIz (hkc _ _ (by have:=D.TIz;have:=D.TITO;have:=D.TIi1;have:=D.TIi2;simp;exact⟨D.TIz,D.TITO,D.TIi1,D.TIi2⟩) hTI),⟨u,v,hs2.extBut _ _ D.TOz a2⟩,a3.at fun o q=>hs2.extBut i1 o D.i1z q,a4.at fun o q=>hs2.extBut i2 o D.i2z q⟩,fun c hc=>?_⟩
  have hc':c=z\/c=TI\/c=TO\/c=i1\/c=i2:=by simpa using hc
  have hn:=(hf c hc).1;rcases hc' with rfl | rfl | rfl | rfl | rfl
  ·rw[Zc fT];exact hn
  ·rw[Zc (ltT _ _ hTI)];exact hn
  ·rw[Zc (ltT _ _ hTO)];exact hn
  ·obtain⟨o,eo,_⟩:=h1;rw[Zc (ltT _ o eo)];exact hn
  ·obtain⟨o,eo,_⟩:=h2;rw[Zc (ltT _ o eo)];exact hn
 done:=by
  intro X hP hw hK hc i pins s σ H E I hf st hg;subst hP hw hK;obtain⟨xs,ys,hq,hq2,hend⟩:=hg;obtain⟨hz,hTI,⟨u0,v0,hTO⟩,h1,h2⟩:=st;obtain⟨its,rv,p,_⟩:=I.list hq;obtain⟨its2,rv2,p2,_⟩:=I.list hq2;have l1:=rv.length
  have l2:=rv2.length;have fz:=hf z (by simp)
  have fTO:=hf TO (by simp);have fi1:=hf i1 (by simp)
  have fi2:=hf i2 (by simp);refine wpAny_pyNext_zip_end (I.ok.hd hc) D hz hTI hTO h1 h2 p.isList p2.isList (by
   rcases hend with e | e
   ·exact .inl (by simp;omega)
   ·exact .inr (by simp;omega)) fun h' hk=>⟨rfl,?_⟩
  have hkc:∀ c o,c∉[z,TO,i1,i2]->s.heap.get? c=some o->h'.get? c=some o:=fun c o hcx q=>hk c o (fun e=>hcx (by simp[e])) (fun e=>hcx (by simp[e])) (fun e=>hcx (by simp[e])) (fun e=>hcx (by simp[e])) q;have nof:∀ c ob,H c=some ob->c≠z/\c≠TO/\c≠i1/\c≠i2:=fun c ob q=>⟨fun e=>(by rw[e,fz.1]at q;cases q),fun e=>(by rw[e,fTO.1]at q;cases q),fun e=>(by rw[e,fi1.1]at q;cases q),fun e=>(by rw[e,fi2.1]at q;cases q)⟩
  refine I.step (g':=s.gens) (d':=s.drawn) (t':=s.toks) (ch:=[z,TO,i1,i2]) (fun c hb=>?_) (fun c o _ _ hcx q _=>hkc c o hcx q) (fun c o _ _ hcx q _=>⟨o.slots,hkc c o hcx q⟩)
   (fun c o _ q n=>n) (fun c o hcx q=>⟨o,hkc c o hcx q⟩) (fun c ys q=>q) (fun c o v q=>q)
   (fun c ps q=>⟨#[],by rw[q];simp⟩) (fun m hm=>?_) (fun c v' q=>?_) I.bare
  ·have hc':c=z\/c=TO\/c=i1\/c=i2:=by simpa using hb
   rcases hc' with rfl | rfl | rfl | rfl
   ·exact⟨fz.2.2.2.1,fz.2.1,fz.2.2.2.2.1,fz.2.2.2.2.2⟩
   ·exact⟨fTO.2.2.2.1,fTO.2.1,fTO.2.2.2.2.1,fTO.2.2.2.2.2⟩
   ·exact⟨fi1.2.2.2.1,fi1.2.1,fi1.2.2.2.2.1,fi1.2.2.2.2.2⟩
   ·exact⟨fi2.2.2.2.1,fi2.2.1,fi2.2.2.2.2.1,fi2.2.2.2.2.2⟩
  ·obtain⟨o,es,ep,ho',r⟩:=hm;exact⟨o,es,ep,hk _ o (Yy03 fz.2.1) (Yy03 fTO.2.1) (Yy03 fi1.2.1) (Yy03 fi2.2.1) ho',r⟩
  ·refine(I.hok c v' q).stay (fun e w' hc' q'=>?_) (fun e q=>q) fun e ys q=>q;rcases hc' with rfl | hc'
   ·have:=nof e _ q
    exact hk e w' this.1 this.2.1 this.2.2.1 this.2.2.2 q'
   ·have:=nof e _ hc'
    exact hk e w' this.1 this.2.1 this.2.2.1 this.2.2.2 q'
 self:=fun _ _ _ _ _ st h=>wpAny_pyIter_zip st.1 h
def iZip(K:PySem.W.Frag)(ta:TA):TI:=fun σ H R=>ta σ H fun vs H1=>∃ a b,vs=[.ref a,.ref b]/\(∃ xs ys,SqL K H1 a xs/\SqL K H1 b ys)/\R (Itz K a b) H1
section
variable{X:Cx}
theorem Zm9 (K:PySem.W.Frag) {elts:List Expr} {x1:Nat} {tpos:Pos} {e f:Expr} {ta:TA} {p pos:Pos} (hg:Gl X "zip") (hm:X.mg "zip"=none) (ha:PA X [e,f] ta) (hs:starEach [e,f] X.env=(false,eval e X.env) :: starEach [f] X.env:=by rfl) (hpl:(backTo pos (starEach [f] X.env)).any (·.1)=false:=by rfl) (hk:X.K=K:=by rfl) :
  PI X (.Tuple elts x1 tpos) (.Call (.Name "zip" p) [e,f] [] pos) (iZip K ta):=by
 subst hk;intro pins s σ H R I h;refine Call_ (ZR2 I hg hm Boot.«zip» (Y0n (thn (ha pos pins s σ H _ I h) fun us s1 hz0=>?_) hs hpl));obtain⟨vs,H1,I1,r1,q1⟩:=hz0;obtain⟨a,b,ev,⟨xs,ys,hq,hq2⟩,q⟩:=q1;subst ev;obtain⟨u,u',rfl,ru,ru'⟩:=Zq12 r1;obtain rfl:u=Value.ref a:=ru;obtain rfl:u'=Value.ref b:=ru';obtain⟨its,rv,pl,_⟩:=I1.list hq;obtain⟨its2,rv2,pl2,_⟩:=I1.list hq2;have lt1:a<s1.heap.objs.size:=let ⟨_,_,e,_⟩:=pl;Yp e
 have lt2:b<s1.heap.objs.size:=let ⟨_,_,e,_⟩:=pl2;Yp e
 have D:ZipApart (s1.heap.objs.size+4) (s1.heap.objs.size+2) (s1.heap.objs.size+3) s1.heap.objs.size (s1.heap.objs.size+1) a b:=by
  have key:∀ n x y:Nat,x<n->y<n->ZipApart (n+4) (n+2) (n+3) n (n+1) x y:=fun n x y h1 h2=>by constructor <;> (intro q;have q':(_:Nat)=_:=q;omega)
  exact key _ _ _ lt1 lt2
 refine call_zip_2 pl.isList pl2.isList fun h' hz hTI hTO hi1 hi2 hsz hk=>?_;refine wpAny_pyIter_zip (s:={ s1 with heap:=h' }) hz ?_;refine⟨s1.heap.objs.size+4,[s1.heap.objs.size+4,s1.heap.objs.size+2,s1.heap.objs.size+3,s1.heap.objs.size,s1.heap.objs.size+1],_,_,H1,rfl,I1.kept (t':=s1.toks) hk,ZQ8 a b _ _ _ _ _ D,⟨hz,hTI,⟨_,_,hTO⟩,hi1,hi2⟩,fun c hc=>?_,q⟩;have hle:s1.heap.objs.size<=c:=by
  have hc':c=s1.heap.objs.size+4\/c=s1.heap.objs.size+2\/c=s1.heap.objs.size+3\/c=s1.heap.objs.size\/c=s1.heap.objs.size+1:=by simpa using hc
  rcases hc' with e | e | e | e | e <;> rw[e] <;> first | exact Yy7 _ | exact Nat.le_add_right _ _
 exact I1.fpOk hle (I1.hok.fresh hle)
end
end L2
namespace My
open PySem L2
section
variable{K:PySem.W.Frag}{a b:Addr}{xs ys:List V}{g:TG}{tt:TT}{te:TE}{o:Nat}{fr:List Nat}{σ:St}{H:Hp}{Q:VK}
theorem Zw11(Pv:Nat->List V->Hp->Prop)(h0:Pv 0 [] H)(hxy:xs.length=ys.length)(hz:xs.length<sizeLine)(hl:∀ i zs H,i<=xs.length->Pv i zs H->SqL K H a xs/\SqL K H b ys/\zs.length<=i)
  (hs:∀(i:Nat) x y zs H (p:Addr),H p=none->xs[i]?=some x->ys[i]?=some y->Pv i zs H->Zr5 Pv g tt te o fr σ i (.ref p) zs (upd H p (.tup [x,y]))) (hd:∀ zs H,Pv xs.length zs H->∀ p,H p=none->Q (.ref p) (upd H p (.lst zs))):LcR (Itz K a b) g tt te o fr σ H Q:=by
 refine⟨fun i m zs H=>m=xs.length - i/\i<=xs.length/\Pv i zs H,⟨xs.length,by simp,Yj _,h0⟩,?_⟩;rintro i m zs H ⟨rfl,hi,p⟩;obtain⟨q,q2,hy⟩:=hl i zs H hi p;by_cases hlt:i<xs.length
 ·refine .inr ⟨⟨xs,ys,xs[i],ys[i]'(by omega),q,q2,by simp[hlt],Yy0 (by omega)⟩,by omega,fun x H' ⟨T,u,v,hT,ex,eH,hu,hv⟩=>?_⟩;subst ex eH;exact hs i u v zs H T hT (hu xs q) (hv ys q2) p (fun j zs H=>∃ m',m'<xs.length - i/\m'=xs.length - j/\j<=xs.length/\Pv j zs H) fun zs H p'=>⟨xs.length - (i+1),by omega,rfl,hlt,p'⟩
 ·have e:i=xs.length:=by omega
  subst e;exact .inl ⟨⟨xs,ys,q,q2,.inl (Yy7 _)⟩,by omega,hd zs H p⟩
end
end My
namespace My
abbrev Mx:=Nat->Nat->Int
def sm:Nat->(Nat->Int)->Int
 | 0,_=>0
 | n+1,f=>sm n f+f n
theorem Zz{f g:Nat->Int}:∀ {n:Nat},(∀ i,i<n->f i=g i)->sm n f=sm n g
 | 0,_=>rfl
 | n+1,h=>by show sm n f+f n=sm n g+g n;rw[Zz fun i hi=>h i (by omega),h n (by omega)]
theorem ZL3{f g:Nat->Int}:∀ {n:Nat},sm n (fun i=>f i+g i)=sm n f+sm n g
 | 0=>rfl
 | n+1=>by show sm n (fun i=>f i+g i)+(f n+g n)=sm n f+f n+(sm n g+g n);rw[ZL3];omega
theorem Zb5{c:Int}{f:Nat->Int}:∀ {n:Nat},sm n (fun i=>c * f i)=c * sm n f
 | 0=>(Y0y c).symm
 | n+1=>by show sm n (fun i=>c * f i)+c * f n=c * (sm n f+f n);rw[Zb5,Y1K]
theorem sm_zero:∀ {n:Nat},sm n (fun _=>0)=0
 | 0=>rfl
 | n+1=>by show sm n (fun _=>0)+0=0;rw[sm_zero];rfl
theorem Zz42{f:Nat->Int}{n:Nat}(h:∀ i,i<n->f i=0):sm n f=0:=by rw[Zz h];exact sm_zero
theorem Zz52{f:Nat->Int}:∀ {n:Nat},sm (n+1) f=f 0+sm n (fun i=>f (i+1))
 | 0=>by show 0+f 0=f 0+0;omega
 | n+1=>by show sm (n+1) f+f (n+1)=f 0+(sm n (fun i=>f (i+1))+f (n+1));rw[Zz52];omega
theorem ZH5{f:Nat->Nat->Int}{m:Nat}:∀ {n:Nat},sm n (fun i=>sm m (f i))=sm m (fun j=>sm n (fun i=>f i j))
 | 0=>sm_zero.symm
 | n+1=>by show sm n (fun i=>sm m (f i))+sm m (f n)=sm m (fun j=>sm n (fun i=>f i j)+f n j);rw[ZH5,ZL3]
def sk(j k:Nat):Nat:=if k<j then k else k+1
def mn(A:Mx)(j:Nat):Mx:=fun i k=>A (i+1) (sk j k)
def sg(j:Nat):Int:=if j % 2=0 then 1 else -1
theorem Zf4(j:Nat):sg (j+1)=- sg j:=by
 unfold sg;by_cases h:j % 2=0
 ·rw[if_pos h,if_neg (by omega)]
 ·rw[if_neg h,if_pos (by omega)];rfl
def det:Nat->Mx->Int
 | 0,_=>1
 | n+1,A=>sm (n+1) fun j=>sg j * A 0 j * det n (mn A j)
theorem ZI5{j k n:Nat}(h:k<n):sk j k<n+1:=by unfold sk;split <;> omega
theorem Zh:∀ {n:Nat} {A B:Mx},(∀ i j,i<n->j<n->A i j=B i j)->det n A=det n B
 | 0,_,_,_=>rfl
 | n+1,A,B,h=>Zz fun j hj=>by rw[h 0 j (by omega) hj,Zh (A:=mn A j) (B:=mn B j) fun i k hi hk=>h (i+1) (sk j k) (by omega) (ZI5 hk)]
theorem Zl2:∀ {n:Nat} {A B C:Mx} {c:Int} {i:Nat},i<n->(∀ r j,r<n->j<n->r≠i->A r j=B r j/\A r j=C r j)->(∀ j,j<n->A i j=c * B i j+C i j)->det n A=c * det n B+det n C
 | 0,_,_,_,_,_,hi,_,_=>absurd hi (Yy08 _)
 | n+1,A,B,C,c,i,hi,h1,h2=>by
  show sm (n+1) (fun j=>sg j * A 0 j * det n (mn A j))=c * sm (n+1) (fun j=>sg j * B 0 j * det n (mn B j))+sm (n+1) (fun j=>sg j * C 0 j * det n (mn C j));rw[<- Zb5,<- ZL3];refine Zz fun j hj=>?_;cases i with
  | zero =>
   have e1:det n (mn B j)=det n (mn A j):=Zh fun r k hr hk=>(h1 (r+1) (sk j k) (by omega) (ZI5 hk) (by omega)).1.symm;have e2:det n (mn C j)=det n (mn A j):=Zh fun r k hr hk=>(h1 (r+1) (sk j k) (by omega) (ZI5 hk) (by omega)).2.symm
   rw[e1,e2,h2 j hj];generalize det n (mn A j)=d;generalize sg j=s;rw[Y1K,Y2X,<- Y0m s c,Y0T s c,Y0m c s,Y0m c]
  | succ i =>
   have e:=Zl2 (n:=n) (A:=mn A j) (B:=mn B j) (C:=mn C j) (c:=c) (i:=i) (by omega) (fun r k hr hk hne=>h1 (r+1) (sk j k) (by omega) (ZI5 hk) (by omega)) (fun k hk=>h2 (sk j k) (ZI5 hk));have e0:=h1 0 j (by omega) hj (by omega)
   rw[e,<- e0.1,<- e0.2];generalize det n (mn B j)=d;generalize det n (mn C j)=d';generalize sg j * A 0 j=s;rw[Y1K,<- Y0m,<- Y0m,Y0T s c]
theorem ZO13{A:Mx}{j k i l:Nat}(h:j<=k):mn (mn A j) k i l=mn (mn A (k+1)) j i l:=by
 show A (i+1+1) (sk j (sk k l))=A (i+1+1) (sk (k+1) (sk j l));refine Yy04 _ ?_;unfold sk;by_cases h1:l<j
 ·rw[if_pos (show l<k by omega),if_pos h1,if_pos (show l<k+1 by omega)]
 ·rw[if_neg h1];by_cases h2:l<k
  ·rw[if_pos h2,if_neg h1,if_pos (show l+1<k+1 by omega)]
  ·rw[if_neg h2,if_neg (show ¬ l+1<j by omega),if_neg (show ¬ l+1<k+1 by omega)]
theorem Zz24:∀ {n:Nat} {A:Mx} {i:Nat},i+1<n->(∀ j,j<n->A i j=A (i+1) j)->det n A=0
 | 0,_,_,hi,_=>absurd hi (Yy08 _)
 | n+1,A,i+1,hi,h=>Zz42 fun j hj=>by rw[Zz24 (A:=mn A j) (i:=i) (by omega) fun k hk=>h (sk j k) (ZI5 hk),Y0y]
 | 1,_,0,hi,_=>absurd hi (by omega)
 | n+2,A,0,_,h=>by
  obtain⟨t,ht⟩:∃ t:Nat->Nat->Int,t=fun j k=>sg j * A 0 j * (sg k * A 1 (sk j k) * det n (mn (mn A j) k)):=⟨_,rfl⟩;have e1:det (n+2) A=sm (n+2) fun j=>sm (n+1) (t j):=Zz fun j hj=>by rw[ht,Zb5];rfl
  have e2:∀ j k,j<=k->k<n+1->t (k+1) j=- t j k:=fun j k hjk hk=>by
   rw[ht];show sg (k+1) * A 0 (k+1) * (sg j * A 1 (sk (k+1) j) * det n (mn (mn A (k+1)) j))=- (sg j * A 0 j * (sg k * A 1 (sk j k) * det n (mn (mn A j) k)))
   have f1:sk (k+1) j=j:=by unfold sk;rw[if_pos (by omega)]
   have f2:sk j k=k+1:=by unfold sk;rw[if_neg (by omega)]
   have f3:det n (mn (mn A (k+1)) j)=det n (mn (mn A j) k):=Zh fun i l _ _=>(ZO13 hjk).symm;rw[f1,f2,f3,Zf4,<- h j (by omega),<- h (k+1) (by omega)];generalize det n (mn (mn A j) k)=d;generalize A 0 j=x;generalize A 0 (k+1)=y;generalize sg j=s;generalize sg k=u;simp only [Y2V,Int.neg_inj];simp only [Y0T,Y1V,Y0m]
  have e3:sm (n+2) (fun j=>sm (n+1) (t j))=sm (n+2) (fun j=>sm (n+1) fun k=>if k<j then t j k else 0)+sm (n+2) (fun j=>sm (n+1) fun k=>if k<j then 0 else t j k):=by rw[<- ZL3];refine Zz fun j _=>?_;rw[<- ZL3];refine Zz fun k _=>?_;split <;> omega
  have e4:sm (n+2) (fun j=>sm (n+1) fun k=>if k<j then t j k else 0)=sm (n+1) (fun k=>sm (n+1) fun j=>if k<=j then t (j+1) k else 0):=by
   rw[ZH5];refine Zz fun k _=>?_;rw[Zz52,if_neg (by omega),Y1S];refine Zz fun j _=>?_;by_cases c:k<=j
   ·rw[if_pos c,if_pos (by omega)]
   ·rw[if_neg c,if_neg (by omega)]
  have e5:sm (n+2) (fun j=>sm (n+1) fun k=>if k<j then 0 else t j k)=sm (n+1) (fun j=>sm (n+1) fun k=>if j<=k then t j k else 0):=by
   show sm (n+1) (fun j=>sm (n+1) fun k=>if k<j then 0 else t j k)+sm (n+1) (fun k=>if k<n+1 then 0 else t (n+1) k)=_;rw[Zz42 (f:=fun k=>if k<n+1 then 0 else t (n+1) k) fun k hk=>if_pos hk,Y0F];refine Zz fun j _=>Zz fun k _=>?_;by_cases c:j<=k
   ·rw[if_pos c,if_neg (by omega)]
   ·rw[if_neg c,if_pos (by omega)]
  rw[e1,e3,e4,e5,<- ZL3];refine Zz42 fun j hj=>?_;rw[<- ZL3];refine Zz42 fun k hk=>?_;by_cases c:j<=k
  ·rw[if_pos c,if_pos c,e2 j k c hk];omega
  ·rw[if_neg c,if_neg c];rfl
def put2(A:Mx)(i:Nat)(x y:Nat->Int):Mx:=fun r=>if r=i then x else if r=i+1 then y else A r
theorem Zz710{n:Nat}{A:Mx}{i:Nat}{x x' y:Nat->Int}(hi:i+1<n):det n (put2 A i (fun j=>x j+x' j) y)=det n (put2 A i x y)+det n (put2 A i x' y):=by
 have:=Zl2 (n:=n) (A:=put2 A i (fun j=>x j+x' j) y) (B:=put2 A i x y) (C:=put2 A i x' y) (c:=1) (i:=i) (by omega) (fun r j _ _ hne=>by unfold put2;rw[if_neg hne,if_neg hne,if_neg hne];exact⟨rfl,rfl⟩) (fun j _=>by unfold put2;rw[if_pos rfl,if_pos rfl,if_pos rfl,Y0E])
 rw[this,Y0E]
theorem ZH4{n:Nat}{A:Mx}{i:Nat}{x y y':Nat->Int}(hi:i+1<n):det n (put2 A i x (fun j=>y j+y' j))=det n (put2 A i x y)+det n (put2 A i x y'):=by
 have ne:¬ i+1=i:=by omega
 have:=Zl2 (n:=n) (A:=put2 A i x (fun j=>y j+y' j)) (B:=put2 A i x y) (C:=put2 A i x y') (c:=1) (i:=i+1) (by omega) (fun r j _ _ hne=>by unfold put2;rw[if_neg hne,if_neg hne,if_neg hne];exact⟨rfl,rfl⟩) (fun j _=>by unfold put2;rw[if_neg ne,if_neg ne,if_neg ne,if_pos rfl,if_pos rfl,if_pos rfl,Y0E])
 rw[this,Y0E]
theorem Zz14{n:Nat}{A:Mx}{i:Nat}{x:Nat->Int}(hi:i+1<n):det n (put2 A i x x)=0:=Zz24 hi fun j _=>by unfold put2;rw[if_pos rfl,if_neg (by omega),if_pos rfl]
theorem Zz610{n:Nat}{A:Mx}{i:Nat}{x y:Nat->Int}(hi:i+1<n):det n (put2 A i y x)=- det n (put2 A i x y):=by have h:=Zz14 (A:=A) (x:=fun j=>x j+y j) hi;rw[Zz710 hi,ZH4 hi,ZH4 hi,Zz14 hi,Zz14 hi]at h;omega
theorem Zh9{A:Mx}{i:Nat}:put2 A i (A i) (A (i+1))=A:=by
 funext r
 unfold put2;by_cases h:r=i
 ·rw[if_pos h,h]
 ·rw[if_neg h];by_cases h2:r=i+1
  ·rw[if_pos h2,h2]
  ·rw[if_neg h2]
theorem ZH6{n:Nat}{A:Mx}{i:Nat}(hi:i+1<n):det n (put2 A i (A (i+1)) (A i))=- det n A:=by
 have:=Zz610 (A:=A) (x:=A i) (y:=A (i+1)) hi
 rw[Zh9]at this;exact this
theorem ZZ1{n:Nat}{a:Nat}:∀ {d:Nat} {A:Mx},a+d+1<n->(∀ j,j<n->A a j=A (a+d+1) j)->det n A=0
 | 0,A,hn,h=>Zz24 hn h
 | d+1,A,hn,h=>by
  have e:=ZH6 (n:=n) (A:=A) (i:=a+d+1) (by omega);have z:det n (put2 A (a+d+1) (A (a+d+1+1)) (A (a+d+1)))=0:=by refine ZZ1 (a:=a) (d:=d) (by omega) fun j hj=>?_;unfold put2;rw[if_neg (by omega),if_neg (by omega),if_pos rfl];exact h j hj
  omega
def rotN(k t i:Nat):Nat:=if i<k then i else if i=k then k+t else if i<=k+t then i - 1 else i
theorem Zi7(k i:Nat):rotN k 0 i=i:=by
 unfold rotN;by_cases h:i<k
 ·rw[if_pos h]
 ·rw[if_neg h];by_cases h2:i=k
  ·rw[if_pos h2,h2];rfl
  ·rw[if_neg h2,if_neg (by omega)]
theorem ZJ6{n k:Nat}:∀ {t:Nat} {A:Mx},k+t<n->det n (fun i=>A (rotN k t i))=sg t * det n A
 | 0,A,_=>by rw[show sg 0=1 from rfl,Y0E];exact Zh fun i j _ _=>by rw[Zi7]
 | t+1,A,h=>by
  have e:=ZJ6 (n:=n) (k:=k) (t:=t) (A:=put2 A (k+t) (A (k+t+1)) (A (k+t))) (by omega);rw[ZH6 (by omega)]at e;have f:det n (fun i=>A (rotN k (t+1) i))=det n (fun i=>put2 A (k+t) (A (k+t+1)) (A (k+t)) (rotN k t i)):=Zh fun i j _ _=>by
   refine congrFun ?_ j;have r1:rotN k (t+1) i=if i<k then i else if i=k then k+(t+1) else if i<=k+(t+1) then i - 1 else i:=rfl
   have r2:rotN k t i=if i<k then i else if i=k then k+t else if i<=k+t then i - 1 else i:=rfl
   unfold put2;by_cases h1:i<k
   ·rw[if_pos h1]at r1 r2;rw[r1,r2,if_neg (by omega),if_neg (by omega)]
   ·rw[if_neg h1]at r1 r2;by_cases h2:i=k
    ·rw[if_pos h2]at r1 r2;rw[r1,r2,if_pos rfl];rfl
    ·rw[if_neg h2]at r1 r2;by_cases h3:i<=k+t
     ·rw[if_pos (by omega)]at r1;rw[if_pos h3]at r2;rw[r1,r2,if_neg (by omega),if_neg (by omega)]
     ·rw[if_neg h3]at r2;by_cases h4:i=k+t+1
      ·rw[if_pos (by omega)]at r1;rw[r1,r2,if_neg (by omega),if_pos h4];exact Yy04 A (by omega)
      ·rw[if_neg (by omega)]at r1;rw[r1,r2,if_neg (by omega),if_neg h4]
  rw[f,e,Zf4,Int.mul_neg,Y2V]
theorem Zz34:∀ {n:Nat} {A:Mx},(∀ i,i<n+1->A i 0=0)->det (n+1) A=0
 | 0,A,h=>by show 0+sg 0 * A 0 0 * 1=0;rw[h 0 (by omega),Y0y];rfl
 | n+1,A,h=>Zz42 fun j hj=>by
  cases j with
  | zero=>rw[h 0 (by omega),Y0y,Y2e]
  | succ j =>
   rw[Zz34 (A:=mn A (j+1)) fun i hi=>?_,Y0y];show A (i+1) (sk (j+1) 0)=0
   rw[show sk (j+1) 0=0 from rfl];exact h (i+1) (by omega)
theorem ZU7{n:Nat}{A:Mx}(h:∀ i,i<n->A (i+1) 0=0):det (n+1) A=A 0 0 * det n (fun i j=>A (i+1) (j+1)):=by
 show sm (n+1) (fun j=>sg j * A 0 j * det n (mn A j))=_;rw[Zz52,Zz42 fun j hj=>?_]
 ·rw[Y0F,show sg 0=1 from rfl,Y0E];refine Yy04 (A 0 0 * ·) (Zh fun i j _ _=>?_);rfl
 ·cases n with
  | zero=>exact absurd hj (Yy08 _)
  | succ n =>
   rw[Zz34 (A:=mn A (j+1)) fun i hi=>?_,Y0y];exact h i hi
theorem ZI6{n:Nat}{A:Mx}{i:Nat}(hi:i<n)(h:∀ j,j<n->A i j=0):det n A=0:=by
 have:=Zl2 (A:=A) (B:=A) (C:=A) (c:=1) hi (fun r j _ _ _=>⟨rfl,rfl⟩) (fun j hj=>by rw[h j hj];rfl)
 omega
theorem ZG4{c:Int}:∀ {n:Nat} {A:Mx},det n (fun i j=>c * A i j)=c ^ n * det n A
 | 0,_=>by show(1:Int)=c ^ 0 * 1;rw[Y1D];rfl
 | n+1,A=>by
  show sm (n+1) (fun j=>sg j * (c * A 0 j) * det n (mn (fun i j=>c * A i j) j))=c ^ (n+1) * sm (n+1) (fun j=>sg j * A 0 j * det n (mn A j));rw[<- Zb5];refine Zz fun j _=>?_;have e:det n (mn (fun i j=>c * A i j) j)=c ^ n * det n (mn A j):=ZG4 (A:=mn A j)
  rw[e,Y2f];generalize det n (mn A j)=d;generalize c ^ n=p;generalize sg j=s;generalize A 0 j=x;simp only [Y0T,Y1V,Y0m]
def offN(R:Mx):Mx:=fun i j=>R 0 0 * R (i+1) (j+1) - R (i+1) 0 * R 0 (j+1)
def offB(R:Mx)(k:Nat):Mx:=fun r j=>if r=0 then R 0 j else if r<=k then R 0 0 * R r j - R r 0 * R 0 j else R r j
theorem ZM6{m:Nat}{R:Mx}:∀ {k:Nat},k<m+1->det (m+1) (offB R k)=R 0 0 ^ k * det (m+1) R
 | 0,_=>by
  rw[Y1D,Y0E];refine Zh fun i j _ _=>?_;unfold offB;by_cases h:i=0
  ·rw[if_pos h,h]
  ·rw[if_neg h,if_neg (by omega)]
 | k+1,hk=>by
  have ih:=ZM6 (m:=m) (R:=R) (k:=k) (by omega);obtain⟨C,hC⟩:∃ C:Mx,C=fun r j=>if r=k+1 then - R (k+1) 0 * R 0 j else offB R k r j:=⟨_,rfl⟩
  obtain⟨B,hB⟩:∃ B:Mx,B=fun r j=>if r=k+1 then R 0 j else offB R k r j:=⟨_,rfl⟩
  obtain⟨Z,hZ⟩:∃ Z:Mx,Z=fun r j=>if r=k+1 then 0 else offB R k r j:=⟨_,rfl⟩
  have hBz:det (m+1) B=0:=ZZ1 (n:=m+1) (a:=0) (d:=k) (by omega) fun j hj=>by
   rw[hB];show(if 0=k+1 then _ else offB R k 0 j)=if 0+k+1=k+1 then _ else _
   rw[if_neg (by omega),if_pos (by omega)];rfl
  have hZz:det (m+1) Z=0:=ZI6 (i:=k+1) hk fun j hj=>by rw[hZ];exact if_pos rfl
  have hCz:det (m+1) C=0:=by
   have:=Zl2 (A:=C) (B:=B) (C:=Z) (c:=- R (k+1) 0) hk (fun r j _ _ hne=>by
    rw[hC,hB,hZ];show(if r=k+1 then _ else offB R k r j)=(if r=k+1 then _ else offB R k r j)/\(if r=k+1 then _ else offB R k r j)=(if r=k+1 then _ else offB R k r j)
    rw[if_neg hne,if_neg hne,if_neg hne];exact⟨rfl,rfl⟩) (fun j _=>by
    rw[hC,hB,hZ];show(if k+1=k+1 then _ else _)=_ * (if k+1=k+1 then _ else _)+(if k+1=k+1 then _ else _)
    rw[if_pos rfl,if_pos rfl,if_pos rfl,Y0F])
   rw[this,hBz,hZz,Y0y];rfl
  have:=Zl2 (A:=offB R (k+1)) (B:=offB R k) (C:=C) (c:=R 0 0) hk (fun r j _ _ hne=>by
   have e1:offB R (k+1) r j=offB R k r j:=by
    unfold offB;by_cases h0:r=0
    ·rw[if_pos h0,if_pos h0]
    ·rw[if_neg h0,if_neg h0];by_cases h1:r<=k
     ·rw[if_pos h1,if_pos (by omega)]
     ·rw[if_neg h1,if_neg (by omega)]
   refine⟨e1,?_⟩;rw[hC,e1];show _=if r=k+1 then _ else _
   rw[if_neg hne]) (fun j _=>by
   have e1:offB R (k+1) (k+1) j=R 0 0 * R (k+1) j - R (k+1) 0 * R 0 j:=by unfold offB;rw[if_neg (by omega),if_pos (by omega)]
   have e2:offB R k (k+1) j=R (k+1) j:=by unfold offB;rw[if_neg (by omega),if_neg (by omega)]
   rw[e1,e2,hC];show _=_+(if k+1=k+1 then - R (k+1) 0 * R 0 j else _)
   rw[if_pos rfl,Y2V]
   rfl)
  rw[this,hCz,ih,Y0F,Y2f];rw[<- Y0m,Y0T (R 0 0)]
theorem ZX11{m:Nat}{R:Mx}:R 0 0 * det m (offN R)=R 0 0 ^ m * det (m+1) R:=by
 rw[<- ZM6 (k:=m) (by omega),ZU7 fun i hi=>?_]
 ·have e0:offB R m 0 0=R 0 0:=if_pos rfl;rw[e0];refine Yy04 (R 0 0 * ·) (Zh fun i j hi hj=>?_);unfold offB offN;rw[if_neg (by omega),if_pos (by omega)]
 ·unfold offB;rw[if_neg (by omega),if_pos (by omega),Y0T];omega
def ex(k:Nat)(r:Nat->Nat)(i:Nat):Nat:=if i<k then i else k+r (i - k)
def Bar(A:Mx)(k M:Nat)(R:Mx)(last:Int):Prop:=last≠0/\∀(m:Nat) (r c:Nat->Nat),(∀ i,i<m+1->r i<M/\c i<M) ->
 det (m+1) (fun i j=>R (r i) (c j))=det (k+m+1) (fun i j=>A (ex k r i) (ex k c j)) * last ^ m
theorem ZX7(A:Mx)(n:Nat):Bar A 0 n A 1:=⟨by decide,fun m r c _=>by rw[Int.one_pow,Y1n,Y1m];refine Zh fun i j _ _=>?_;unfold ex;rw[if_neg (Yy08 _),if_neg (Yy08 _),Y1m,Y1m,Nat.sub_zero,Nat.sub_zero]⟩
theorem Zj9{p:Int}(h:p≠0):∀ n:Nat,p ^ n≠0
 | 0=>by rw[Y1D];decide
 | n+1=>by rw[Y2f];exact Int.mul_ne_zero (Zj9 h n) h
def bef(r:Nat->Nat):Nat->Nat
 | 0=>0
 | i+1=>r i+1
theorem ZQ11(k:Nat)(r:Nat->Nat)(i:Nat):ex k (bef r) i=ex (k+1) r i:=by
 unfold ex;by_cases h:i<k
 ·rw[if_pos h,if_pos (by omega)]
 ·rw[if_neg h];by_cases h2:i=k
  ·rw[if_pos (by omega),h2,Y1e];rfl
  ·rw[if_neg (by omega)];obtain⟨d,rfl⟩:∃ d,i=k+d+1:=⟨i - k - 1,by omega⟩;rw[show k+d+1 - k=d+1 by omega,show k+d+1 - (k+1)=d by omega];show k+(r d+1)=k+1+r d
   omega
theorem ZK8{A:Mx}{k M:Nat}{R:Mx}{last:Int}(h:Bar A k (M+1) R last)(hp:R 0 0≠0){m:Nat}{r c:Nat->Nat}(hb:∀ i,i<m+1->r i<M/\c i<M) :
  det (m+1) (fun i j=>offN R (r i) (c j))=R 0 0 ^ m * (last ^ (m+1) * det (k+1+m+1) (fun i j=>A (ex (k+1) r i) (ex (k+1) c j))):=by
 have e1:=ZX11 (m:=m+1) (R:=fun i j=>R (bef r i) (bef c j));have e2:=h.2 (m+1) (bef r) (bef c) fun i hi=>by
  cases i with
  | zero=>exact⟨Nat.succ_pos _,Nat.succ_pos _⟩
  | succ i=>have:=hb i (by omega);exact⟨Nat.succ_lt_succ this.1,Nat.succ_lt_succ this.2⟩
 have e3:det (m+1) (offN fun i j=>R (bef r i) (bef c j))=det (m+1) (fun i j=>offN R (r i) (c j)):=rfl;have e4:det (k+(m+1)+1) (fun i j=>A (ex k (bef r) i) (ex k (bef c) j))=det (k+1+m+1) (fun i j=>A (ex (k+1) r i) (ex (k+1) c j)):=by rw[show k+(m+1)+1=k+1+m+1 by omega];exact Zh fun i j _ _=>by rw[ZQ11,ZQ11]
 rw[e3]at e1;rw[e4]at e2;have e5:R (bef r 0) (bef c 0)=R 0 0:=rfl
 rw[e5,e2]at e1;generalize det (m+1) (fun i j=>offN R (r i) (c j))=x at *;generalize det (k+1+m+1) (fun i j=>A (ex (k+1) r i) (ex (k+1) c j))=y at *;rw[Y2f]at e1;refine Y2W hp ?_;rw[e1,Y0T y,Y0T (R 0 0 ^ m),Y0m]
theorem ZL6(A:Mx):det 1 A=A 0 0:=by show 0+sg 0 * A 0 0 * 1=A 0 0;rw[show sg 0=1 from rfl];omega
theorem Za12{A:Mx}{k M:Nat}{R:Mx}{last:Int}(h:Bar A k (M+1) R last)(hp:R 0 0≠0){i j:Nat}(hi:i<M)(hj:j<M) :
  offN R i j=last * det (k+2) (fun a b=>A (ex (k+1) (fun _=>i) a) (ex (k+1) (fun _=>j) b)):=by
 have:=ZK8 h hp (m:=0) (r:=fun _=>i) (c:=fun _=>j) fun _ _=>⟨hi,hj⟩
 rw[ZL6,Y1D,Y0E,Y2f,Y1D,Y0E]at this;exact this
theorem Zl10{A:Mx}{k M:Nat}{R R':Mx}{last:Int}(h:Bar A k (M+1) R last)(hp:R 0 0≠0)(hR:∀ i j,i<M->j<M->R' i j=(offN R i j).fdiv last):Bar A (k+1) M R' (R 0 0):=by
 refine⟨hp,fun m r c hb=>?_⟩;have ex1:∀ i j,i<M->j<M->offN R i j=last * R' i j:=fun i j hi hj=>by rw[hR i j hi hj,Za12 h hp hi hj,Int.mul_fdiv_cancel_left _ h.1]
 have e1:=ZK8 h hp hb;have e2:det (m+1) (fun i j=>offN R (r i) (c j))=last ^ (m+1) * det (m+1) (fun i j=>R' (r i) (c j)):=by rw[<- ZG4];exact Zh fun i j hi hj=>ex1 _ _ (hb i hi).1 (hb j hj).2
 rw[e2]at e1;refine Y2W (Zj9 h.1 (m+1)) ?_;rw[e1];generalize det (k+1+m+1) (fun i j=>A (ex (k+1) r i) (ex (k+1) c j))=y;rw[Y1V,Y0T y]
theorem Zz912{A:Mx}{k M t:Nat}{R:Mx}{last:Int}(h:Bar A k M R last)(ht:t<M):Bar (fun i=>A (rotN k t i)) k M (fun i=>R (rotN 0 t i)) last:=by
 refine⟨h.1,fun m r c hb=>?_⟩;have e:=h.2 m (fun i=>rotN 0 t (r i)) c fun i hi=>⟨by
  have:=(hb i hi).1
  unfold rotN;rw[if_neg (by omega)];split
  ·omega
  ·split <;> omega,(hb i hi).2⟩
 rw[e];refine Yy04 (· * last ^ m) (Zh fun i j _ _=>?_);refine Yy04 (fun a=>A a (ex k c j)) ?_;unfold ex;by_cases hi:i<k
 ·rw[if_pos hi,if_pos hi];unfold rotN;rw[if_pos hi]
 ·rw[if_neg hi,if_neg hi];show k+rotN 0 t (r (i - k))=rotN k t (k+r (i - k))
  generalize r (i - k)=a;have r1:rotN 0 t a=if a<0 then a else if a=0 then 0+t else if a<=0+t then a - 1 else a:=rfl
  have r2:rotN k t (k+a)=if k+a<k then k+a else if k+a=k then k+t else if k+a<=k+t then k+a - 1 else k+a:=rfl
  rw[if_neg (by omega)]at r1 r2;by_cases h1:a=0
  ·rw[if_pos h1]at r1;rw[if_pos (by omega)]at r2;rw[r1,r2];omega
  ·rw[if_neg h1]at r1;rw[if_neg (by omega)]at r2;by_cases h2:a<=t
   ·rw[if_pos (by omega)]at r1;rw[if_pos (by omega)]at r2;rw[r1,r2];omega
   ·rw[if_neg (by omega)]at r1;rw[if_neg (by omega)]at r2;rw[r1,r2]
theorem Zj12(k i:Nat):ex k (fun i=>i) i=i:=by
 unfold ex;by_cases h:i<k
 ·rw[if_pos h]
 ·rw[if_neg h];show k+(i - k)=i
  omega
theorem Zm10{A:Mx}{k M:Nat}{R:Mx}{last:Int}(h:Bar A k (M+1) R last)(h0:∀ i,i<M+1->R i 0=0):det (k+M+1) A=0:=by
 have e:=h.2 M (fun i=>i) (fun i=>i) fun i hi=>⟨hi,hi⟩;rw[Zz34 (A:=fun i j=>R i j) h0]at e;have e2:det (k+M+1) (fun i j=>A (ex k (fun i=>i) i) (ex k (fun i=>i) j))=det (k+M+1) A:=Zh fun i j _ _=>by rw[Zj12,Zj12]
 rw[e2]at e;rcases Int.mul_eq_zero.mp e.symm with z | z
 ·exact z
 ·exact absurd z (Zj9 h.1 M)
theorem Zb12{A:Mx}{k:Nat}{R:Mx}{last:Int}(h:Bar A k 1 R last):R 0 0=det (k+1) A:=by
 have e:=h.2 0 (fun i=>i) (fun i=>i) fun i hi=>⟨by omega,by omega⟩;rw[ZL6,Y1D,Y1n]at e;have e2:det (k+0+1) (fun i j=>A (ex k (fun i=>i) i) (ex k (fun i=>i) j))=det (k+1) A:=Zh fun i j _ _=>by rw[Zj12,Zj12]
 rw[e2]at e;exact e
end My
namespace L2
open PySem PySem.Spec PyProof.Rows
def Zz414(i j:Int):Prop:=i.natAbs<2 ^ 9000/\j.natAbs<2 ^ 9000
def Zz614(i j:Int):Prop:=j≠0/\j.natAbs<2 ^ 9000
theorem ZY4{a:Int}(h:a.natAbs<2 ^ 9000):Builtin.Int.intBits a<=9000:=PySem.intBits_le_iff.mpr h
section
variable{X:Cx}
theorem Zz06:OpR X (binaryOp .Mult) (rI Zz414 fun i j=>.int (i * j)):=opI fun _ _ _ _ _ _ _ hc q=>mul_int q (.of_bits (YF (ZY4 hc.1) (by decide)) (YF (ZY4 hc.2) (by decide)))
theorem Zr9:OpR X (binaryOp .FloorDiv) (rI Zz614 fun i j=>.int (i.fdiv j)):=opI fun _ _ _ _ _ _ _ hc q=>floordiv_int hc.1 q (.inl (PyProof.noPylong_of_log2 ((Nat.log2_lt (by have:=hc.1;omega)).mpr hc.2)))
end
end L2
namespace My
def fnL(L:List (List Int)):Mx:=fun i j=>(L.getD i []).getD j 0
theorem Zs2{L:List (List Int)}{l:List Int}{i j:Nat}{x:Int}(h:L[i]?=some l)(h2:l[j]?=some x):fnL L i j=x:=by
 have e:L.getD i []=l:=by rw[Yy3,h];rfl
 unfold fnL;rw[e,Yy3,h2];rfl
def bnd(B:Nat):Nat->Nat
 | 0=>1
 | n+1=>(n+1) * (B * bnd B n)
theorem ZH10{f:Nat->Int}{C:Nat}:∀ {n:Nat},(∀ i,i<n->(f i).natAbs<=C)->(sm n f).natAbs<=n * C
 | 0,_=>by show(0:Int).natAbs<=0 * C;rw[Nat.zero_mul];exact Yy7 0
 | n+1,h=>by
  have h1:=ZH10 (n:=n) fun i hi=>h i (by omega);have h2:=h n (by omega)
  have h3:(sm n f+f n).natAbs<=(sm n f).natAbs+(f n).natAbs:=Int.natAbs_add_le ..;show(sm n f+f n).natAbs<=(n+1) * C
  rw[Nat.succ_mul];omega
theorem ZE8{B:Nat}:∀ {n:Nat} {A:Mx},(∀ i j,i<n->j<n->(A i j).natAbs<=B)->(det n A).natAbs<=bnd B n
 | 0,_,_=>Yy7 1
 | n+1,A,h=>by
  refine ZH10 fun j hj=>?_;have e:(sg j).natAbs=1:=by unfold sg;split <;> rfl
  rw[Yy32,Yy32,e,Nat.one_mul];exact Y1h (h 0 j (by omega) hj) (ZE8 fun i k hi hk=>h (i+1) (sk j k) (by omega) (ZI5 hk))
theorem Zz612{b:Nat}:∀ {n:Nat},n<=16->bnd (2 ^ b) n<=2 ^ ((b+4) * n)
 | 0,_=>by show 1<=2 ^ ((b+4) * 0);rw[Nat.mul_zero];exact Yy7 1
 | n+1,h=>by
  have ih:=Zz612 (b:=b) (n:=n) (by omega);have e:2 ^ ((b+4) * (n+1))=16 * (2 ^ b * 2 ^ ((b+4) * n)):=by rw[Nat.mul_succ,Nat.pow_add,Nat.pow_add,Nat.mul_comm (2 ^ ((b+4) * n)),Nat.mul_comm (2 ^ b) (2 ^ 4),Nat.mul_assoc]
  rw[e];show(n+1) * (2 ^ b * bnd (2 ^ b) n)<=_
  exact Y1h h (Y1h (Yy7 _) ih)
theorem ZT7{n:Nat}{A:Mx}(hn:n<=16)(h:∀ i j,i<n->j<n->(A i j).natAbs<=2 ^ 400):(det n A).natAbs<2 ^ 9000:=by
 have h1:=ZE8 h;have h2:=Zz612 (b:=400) hn
 have h3:2 ^ ((400+4) * n)<=2 ^ (404 * 16):=Nat.pow_le_pow_right (by decide) (Y1h (Yy7 _) hn);have h4:2 ^ (404 * 16)<2 ^ 9000:=Nat.pow_lt_pow_right (by decide) (by decide)
 exact Y2j (YF h1 (YF h2 h3)) h4
theorem Zi13{A:Mx}{k M:Nat}{R:Mx}{last:Int}(h:Bar A k M R last){i j:Nat}(hi:i<M)(hj:j<M):R i j=det (k+1) (fun a b=>A (ex k (fun _=>i) a) (ex k (fun _=>j) b)):=by
 have:=h.2 0 (fun _=>i) (fun _=>j) fun _ _=>⟨hi,hj⟩
 rw[ZL6,Y1D,Y1n]at this;exact this
theorem ZY7{A:Mx}{k M n:Nat}{R:Mx}{last:Int}(h:Bar A k M R last)(hn:k+M=n)(hn16:n<=16)(hA:∀ i j,i<n->j<n->(A i j).natAbs<=2 ^ 400){i j:Nat}(hi:i<M)(hj:j<M):(R i j).natAbs<2 ^ 9000:=by
 rw[Zi13 h hi hj];refine ZT7 (by omega) fun a b ha hb=>hA _ _ ?_ ?_
 ·have e:ex k (fun _=>i) a=if a<k then a else k+i:=rfl
  rw[e];split <;> omega
 ·have e:ex k (fun _=>j) b=if b<k then b else k+j:=rfl
  rw[e];split <;> omega
theorem ZO10{L:List (List Int)}{l:List Int}{t:Nat}(h:L[t]?=some l)(i:Nat):(l :: L.eraseIdx t)[i]?=L[rotN 0 t i]?:=by
 have ht:=(Yy2.mp h).1;have r:rotN 0 t i=if i<0 then i else if i=0 then 0+t else if i<=0+t then i - 1 else i:=rfl
 rw[if_neg (by omega)]at r;cases i with
 | zero =>
  rw[if_pos rfl,Y1m]at r;rw[r,h];rfl
 | succ i =>
  rw[if_neg (by omega),Y1m]at r;rw[r,List.getElem?_cons_succ,Yy23];by_cases c:i+1<=t
  ·rw[if_pos c,if_pos (by omega)];rfl
  ·rw[if_neg c,if_neg (by omega)]
theorem ZP10{L:List (List Int)}{l:List Int}{t:Nat}(h:L[t]?=some l):fnL (l :: L.eraseIdx t)=fun i=>fnL L (rotN 0 t i):=by
 funext i j
 show((l :: L.eraseIdx t).getD i []).getD j 0=(L.getD (rotN 0 t i) []).getD j 0;refine Yy04 (fun r:List Int=>r.getD j 0) ?_;rw[Yy3,Yy3,ZO10 h]
def tkn(y:Int)(p:List Int)(last:Int)(l:List Int):List Int:=List.zipWith (fun own other=>(y * own - l.headD 0 * other).fdiv last) l.tail p
theorem Zz28{y last:Int}{p l:List Int}(h:l.length=p.length+1):(tkn y p last l).length=p.length:=by unfold tkn;rw[Y1j,List.length_tail];omega
theorem ZB10{y last:Int}{p:List Int}{L:List (List Int)}{M:Nat}(hp:p.length=M)(hL:L.length=M)(hl:∀ l∈L,l.length=M+1){i j:Nat}(hi:i<M)(hj:j<M) :
  fnL (L.map (tkn y p last)) i j=(offN (fnL ((y :: p) :: L)) i j).fdiv last:=by
 obtain⟨l,hli⟩:∃ l,L[i]?=some l:=⟨_,Yy0 (by omega)⟩;have hll:=hl l (Yy6 hli)
 obtain⟨x,l',rfl⟩:∃ x l',l=x :: l':=by
  cases l with
  | nil=>cases hll
  | cons x l'=>exact⟨x,l',rfl⟩
 have hl':l'.length=M:=by rw[YA]at hll;omega
 obtain⟨u,hu⟩:∃ u,l'[j]?=some u:=⟨_,Yy0 (by omega)⟩;obtain⟨v,hv⟩:∃ v,p[j]?=some v:=⟨_,Yy0 (by omega)⟩;have e1:fnL (L.map (tkn y p last)) i j=(y * u - x * v).fdiv last:=Zs2 (l:=tkn y p last (x :: l')) (by rw[Ym,hli];rfl) (by
  show(List.zipWith _ l' p)[j]?=_;rw[Y0N,hu,hv]
  rfl)
 have e2:fnL ((y :: p) :: L) 0 0=y:=rfl;have e3:fnL ((y :: p) :: L) (i+1) (j+1)=u:=Zs2 (l:=x :: l') hli hu
 have e4:fnL ((y :: p) :: L) (i+1) 0=x:=Zs2 (l:=x :: l') hli rfl;have e5:fnL ((y :: p) :: L) 0 (j+1)=v:=Zs2 (l:=y :: p) rfl hv
 rw[e1];unfold offN;rw[e2,e3,e4,e5]
end My
namespace My
open PySem L2
def RowV(K:PySem.W.Frag)(H:Hp)(v:V)(l:List Int):Prop:=∃(r:Addr) (k:Bool),v=.ref r/\SqK k K H r (IL l)
def LiV(d:Addr)(H:Hp)(v:V)(l:List Int):Prop:=∃ r,v=.ref r/\H r=some (.lst (IL l))/\r≠d
theorem LiV.same{d:Addr}{H H':Hp}{v:V}{l:List Int}(s:Same H H')(h:LiV d H v l):LiV d H' v l:=by obtain⟨r,e,h,n⟩:=h;exact⟨r,e,s _ _ h,n⟩
theorem LiV.mut{d:Addr}{H:Hp}{v:V}{l:List Int}{o:HO}(h:LiV d H v l):LiV d (upd H d o) v l:=by obtain⟨r,e,h,n⟩:=h;exact⟨r,e,by rw[Zc n];exact h,n⟩
theorem LiV.list{d:Addr}{H:Hp}{v:V}{l:List Int}(h:LiV d H v l):Zz97 H v l:=by obtain⟨r,e,h,_⟩:=h;exact⟨r,e,h⟩
theorem Bears.erase{α:Type}[DecidableEq α]{R:V->α->Prop}{xs:List V}{l:List α}(h:Bears R xs l)(t:Nat):Bears R (xs.eraseIdx t) (l.eraseIdx t):=by
 have hl:=h.1;refine⟨by rw[Y0S,Y0S,hl],fun i a e=>?_⟩;rw[Yy23]at e;rw[Yy23];split at e
 ·next c=>rw[if_pos c];exact h.2 _ _ e
 ·next c=>rw[if_neg c];exact h.2 _ _ e
theorem ZS6(x:Int)(l:List Int):cutV (IL (x :: l)) (some 1) none=IL l:=by rw[ZP4 (by decide)];rfl
theorem ZE13(t:Nat):sg t * sg t=1:=by unfold sg;split <;> rfl
end My
namespace My
theorem ZZ8{f:Nat->Nat->Int}{n m:Nat}:sm n (fun i=>sm m (fun j=>f i j))=sm m (fun j=>sm n (fun i=>f i j)):=ZH5
theorem ZD8:∀ {n:Nat} {A:Mx},det (n+1) A=sm (n+1) fun i=>sg i * A i 0 * det n (fun r c=>A (sk i r) (c+1))
 | 0,A=>rfl
 | n+1,A=>by
  have e1:det (n+2) A=sg 0 * A 0 0 * det (n+1) (mn A 0)+sm (n+1) fun j=>sg (j+1) * A 0 (j+1) * det (n+1) (mn A (j+1)):=Zz52;have e2:sm (n+2) (fun i=>sg i * A i 0 * det (n+1) (fun r c=>A (sk i r) (c+1)))=sg 0 * A 0 0 * det (n+1) (fun r c=>A (sk 0 r) (c+1))+sm (n+1) fun i=>sg (i+1) * A (i+1) 0 * det (n+1) (fun r c=>A (sk (i+1) r) (c+1)):=Zz52
  rw[e1,e2];have e3:det (n+1) (mn A 0)=det (n+1) (fun r c=>A (sk 0 r) (c+1)):=Zh fun r c _ _=>rfl
  rw[e3];refine Yy04 (fun z:Int=>sg 0 * A 0 0 * det (n+1) (fun r c=>A (sk 0 r) (c+1))+z) ?_;obtain⟨D,hD⟩:∃ D:Nat->Nat->Int,D=fun i j=>det n (fun r c=>A (sk i r+1) (sk (j+1) (c+1))):=⟨_,rfl⟩;have e4:∀ j,j<n+1->det (n+1) (mn A (j+1))=sm (n+1) fun i=>sg i * A (i+1) 0 * D i j:=fun j _=>by rw[ZD8,hD];rfl
  have e5:∀ i,i<n+1->det (n+1) (fun r c=>A (sk (i+1) r) (c+1))=sm (n+1) fun j=>sg j * A 0 (j+1) * D i j:=fun i hi=>by
   show sm (n+1) (fun j=>sg j * A (sk (i+1) 0) (j+1) * det n (mn (fun r c=>A (sk (i+1) r) (c+1)) j))=_;refine Zz fun j _=>?_;rw[hD];show sg j * A (sk (i+1) 0) (j+1) * det n (mn (fun r c=>A (sk (i+1) r) (c+1)) j)=sg j * A 0 (j+1) * det n (fun r c=>A (sk i r+1) (sk (j+1) (c+1)))
   rw[show sk (i+1) 0=0 from rfl];refine Yy04 (sg j * A 0 (j+1) * ·) (Zh fun r c _ _=>?_);show A (sk (i+1) (r+1)) (sk j c+1)=A (sk i r+1) (sk (j+1) (c+1))
   have f1:sk (i+1) (r+1)=sk i r+1:=by
    unfold sk;by_cases h:r<i
    ·rw[if_pos h,if_pos (by omega)]
    ·rw[if_neg h,if_neg (by omega)]
   have f2:sk j c+1=sk (j+1) (c+1):=by
    unfold sk;by_cases h:c<j
    ·rw[if_pos h,if_pos (by omega)]
    ·rw[if_neg h,if_neg (by omega)]
   rw[f1,f2]
  have e6:sm (n+1) (fun j=>sg (j+1) * A 0 (j+1) * det (n+1) (mn A (j+1)))=sm (n+1) fun j=>sm (n+1) fun i=>sg (j+1) * A 0 (j+1) * (sg i * A (i+1) 0 * D i j):=Zz fun j hj=>by rw[e4 j hj,Zb5]
  have e7:sm (n+1) (fun i=>sg (i+1) * A (i+1) 0 * det (n+1) (fun r c=>A (sk (i+1) r) (c+1)))=sm (n+1) fun i=>sm (n+1) fun j=>sg (i+1) * A (i+1) 0 * (sg j * A 0 (j+1) * D i j):=Zz fun i hi=>by rw[e5 i hi,Zb5]
  rw[e6,e7,ZZ8];refine Zz fun i _=>Zz fun j _=>?_;rw[Zf4,Zf4];generalize D i j=d;generalize A 0 (j+1)=x;generalize A (i+1) 0=y;generalize sg i=s;generalize sg j=u;simp only [Y2V,Int.neg_inj];simp only [Y0T,Y1V,Y0m]
theorem det_T:∀ {n:Nat} {A:Mx},det n (fun i j=>A j i)=det n A
 | 0,_=>rfl
 | n+1,A=>by
  rw[ZD8 (A:=A)];refine Zz fun j _=>?_;show sg j * A j 0 * det n (fun i k=>A (sk j k) (i+1))=sg j * A j 0 * det n (fun r c=>A (sk j r) (c+1))
  rw[<- det_T (A:=fun r c=>A (sk j r) (c+1))]
theorem ZV11{n a b:Nat}{A:Mx}(ha:a<n)(hb:b<n)(hne:a≠b)(h:∀ j,j<n->A a j=A b j):det n A=0:=by
 rcases Nat.lt_or_gt_of_ne hne with c | c
 ·obtain⟨d,rfl⟩:∃ d,b=a+d+1:=⟨b - a - 1,by omega⟩;exact ZZ1 hb h
 ·obtain⟨d,rfl⟩:∃ d,a=b+d+1:=⟨a - b - 1,by omega⟩;exact ZZ1 ha fun j hj=>(h j hj).symm
def putr(A:Mx)(i:Nat)(x:Nat->Int):Mx:=fun r=>if r=i then x else A r
theorem ZK6{n i:Nat}{A:Mx}{c:Int}{x y:Nat->Int}(hi:i<n):det n (putr A i (fun j=>c * x j+y j))=c * det n (putr A i x)+det n (putr A i y) :=
 Zl2 hi (fun r j _ _ hne=>by unfold putr;rw[if_neg hne,if_neg hne,if_neg hne];exact⟨rfl,rfl⟩) (fun j _=>by unfold putr;rw[if_pos rfl,if_pos rfl,if_pos rfl])
theorem ZR5{A:Mx}{i:Nat}:putr A i (A i)=A:=by
 funext r
 unfold putr;by_cases h:r=i
 ·rw[if_pos h,h]
 ·rw[if_neg h]
theorem ZO6{n a b:Nat}{A:Mx}{c:Int}(ha:a<n)(hb:b<n)(hne:a≠b):det n (putr A a (fun j=>A a j+c * A b j))=det n A:=by
 have e:(fun j=>A a j+c * A b j)=fun j=>c * A b j+A a j:=by funext j;omega
 rw[e,ZK6 ha,ZR5,ZV11 ha hb hne (A:=putr A a (A b)) fun j _=>?_,Y0y,Y1S];unfold putr;rw[if_pos rfl,if_neg (Yy03 hne)]
theorem ZE12(a i:Nat):rotN 0 a (i+1)=sk a i:=by
 have r:rotN 0 a (i+1)=if i+1<0 then i+1 else if i+1=0 then 0+a else if i+1<=0+a then i+1 - 1 else i+1:=rfl
 rw[if_neg (by omega),if_neg (by omega)]at r;rw[r];unfold sk;by_cases h:i<a
 ·rw[if_pos h,if_pos (by omega)];omega
 ·rw[if_neg h,if_neg (by omega)]
theorem Zz88{f:Nat->Int}{a:Nat}:∀ {n:Nat},a<n->(∀ j,j<n->j≠a->f j=0)->sm n f=f a
 | 0,h,_=>absurd h (Yy08 _)
 | n+1,h,h0=>by
  show sm n f+f n=f a;by_cases c:a=n
  ·rw[Zz42 fun i hi=>h0 i (by omega) (by omega),c,Y1S]
  ·rw[Zz88 (n:=n) (by omega) fun j hj hne=>h0 j (by omega) hne,h0 n (by omega) (by omega),Y0F]
theorem Zz510{n a:Nat}{A:Mx}(ha:a<n+1):det (n+1) (putr A a (fun j=>if j=a then 1 else 0))=det n (fun i j=>A (sk a i) (sk a j)):=by
 have e:=ZJ6 (n:=n+1) (k:=0) (t:=a) (A:=putr A a (fun j=>if j=a then 1 else 0)) (by omega);have r0:rotN 0 a 0=a:=by show(if 0<0 then 0 else if 0=0 then 0+a else _)=a;rw[if_neg (by omega),if_pos rfl,Y1m]
 have top:det (n+1) (fun i=>putr A a (fun j=>if j=a then 1 else 0) (rotN 0 a i))=sg a * det n (fun i j=>A (sk a i) (sk a j)):=by
  show sm (n+1) (fun j=>sg j * putr A a (fun j=>if j=a then 1 else 0) (rotN 0 a 0) j * det n (mn (fun i=>putr A a (fun j=>if j=a then 1 else 0) (rotN 0 a i)) j))=_;rw[Zz88 ha fun j _ hne=>?_]
  ·rw[r0];have e1:putr A a (fun j=>if j=a then 1 else 0) a a=1:=by unfold putr;rw[if_pos rfl,if_pos rfl]
   rw[e1,Y1n];refine Yy04 (sg a * ·) (Zh fun i j _ _=>?_);show putr A a (fun j=>if j=a then 1 else 0) (rotN 0 a (i+1)) (sk a j)=A (sk a i) (sk a j)
   rw[ZE12];unfold putr;rw[if_neg (by unfold sk;split <;> omega)]
  ·rw[r0];have e1:putr A a (fun j=>if j=a then 1 else 0) a j=0:=by unfold putr;rw[if_pos rfl,if_neg hne]
   rw[e1,Y0y,Y2e]
 rw[top]at e;have h:=Yy04 (sg a * ·) e
 simp only [<- Y0m]at h;rw[show sg a * sg a=1 by unfold sg;split <;> rfl,Y0E,Y0E]at h
 exact h.symm
theorem ZN6{n a:Nat}{A:Mx}{w:Int}(ha:a<n+1):det (n+1) (fun i j=>A i j+w * ((if i=a then 1 else 0) * (if j=a then 1 else 0)))=det (n+1) A+w * det n (fun i j=>A (sk a i) (sk a j)):=by
 have e:det (n+1) (fun i j=>A i j+w * ((if i=a then 1 else 0) * (if j=a then 1 else 0)))=det (n+1) (putr A a (fun j=>w * (fun j=>if j=a then 1 else 0) j+A a j)):=Zh fun i j _ _=>by
  unfold putr;by_cases h:i=a
  ·subst h;rw[if_pos rfl,if_pos rfl,Y0E];show A i j+w * (if j=i then 1 else 0)=w * (if j=i then 1 else 0)+A i j
   exact Int.add_comm ..
  ·rw[if_neg h,if_neg h,Y2e,Y0y,Y0F]
 rw[e,ZK6 ha,ZR5,Zz510 ha];omega
def ind(u v i:Nat):Int:=(if i=u then 1 else 0) - (if i=v then 1 else 0)
def Zs5(A:Mx)(a b:Nat):Mx:=fun i j=>(A i j+(if i=b then A a j else 0))+(if j=b then A i a+(if i=b then A a a else 0) else 0)
theorem ZI4{n a b:Nat}{A:Mx}(ha:a<n)(hb:b<n)(hne:a≠b):det n (Zs5 A a b)=det n A:=by
 have e1:det n A=det n (putr A b (fun j=>A b j+1 * A a j)):=(ZO6 hb ha (Yy03 hne)).symm;obtain⟨R,hR⟩:∃ R:Mx,R=putr A b (fun j=>A b j+1 * A a j):=⟨_,rfl⟩;have e2:det n R=det n (putr (fun i j=>R j i) b (fun j=>(fun i j=>R j i) b j+1 * (fun i j=>R j i) a j)):=by rw[ZO6 (A:=fun i j=>R j i) hb ha (Yy03 hne)];exact det_T.symm
 rw[e1,<- hR,e2,<- det_T (A:=putr (fun i j=>R j i) b (fun j=>(fun i j=>R j i) b j+1 * (fun i j=>R j i) a j))];refine Zh fun i j _ _=>?_;have rv:∀ r c,R r c=A r c+(if r=b then A a c else 0):=fun r c=>by
  rw[hR];unfold putr;by_cases h:r=b
  ·rw[if_pos h,if_pos h,h];omega
  ·rw[if_neg h,if_neg h];omega
 unfold Zs5;show _=(putr (fun i j=>R j i) b (fun j=>R j b+1 * R j a)) j i
 unfold putr;by_cases h:j=b
 ·rw[if_pos h,if_pos h,rv,rv,h];by_cases h2:i=b
  ·rw[if_pos h2,if_pos h2];omega
  ·rw[if_neg h2,if_neg h2];omega
 ·rw[if_neg h,if_neg h];show _=R i j
  rw[rv];omega
theorem ZW11{n a b:Nat}{A:Mx}{w:Int}(ha:a<n+1)(hb:b<n+1)(hne:a≠b):det (n+1) (fun i j=>A i j+w * (ind a b i * ind a b j))=det (n+1) A+w * det n (fun i j=>Zs5 A a b (sk a i) (sk a j)):=by
 have e1:=ZI4 (A:=fun i j=>A i j+w * (ind a b i * ind a b j)) ha hb hne;have e2:det (n+1) (Zs5 (fun i j=>A i j+w * (ind a b i * ind a b j)) a b)=det (n+1) (fun i j=>Zs5 A a b i j+w * ((if i=a then 1 else 0) * (if j=a then 1 else 0))):=Zh fun i j _ _=>by
  have na:¬ a=b:=hne;have nb:¬ b=a:=Yy03 hne
  unfold Zs5 ind;by_cases hi:i=b
  ·subst hi;by_cases hj:j=i
   ·subst hj;simp[na,nb];omega
   ·by_cases hj2:j=a
    ·subst hj2;simp[na,nb,hj];omega
    ·simp[na,nb,hj,hj2]
  ·by_cases hi2:i=a
   ·subst hi2;by_cases hj:j=b
    ·subst hj;simp[na,nb];omega
    ·by_cases hj2:j=i
     ·subst hj2;simp[na,nb]
     ·simp[na,nb,hj,hj2]
   ·by_cases hj:j=b
    ·subst hj;simp[na,nb,hi,hi2]
    ·by_cases hj2:j=a
     ·subst hj2;simp[na,nb,hi,hi2]
     ·simp[na,nb,hi,hi2,hj,hj2]
 rw[<- e1,e2,ZN6 ha,ZI4 ha hb hne]
end My
namespace My
open PySem L2
abbrev Ed:=Nat × Nat × Int
def lapE:List Ed->Mx
 | []=>fun _ _=>0
 | e :: E=>fun i j=>e.2.2 * (ind e.1 e.2.1 i * ind e.1 e.2.1 j)+lapE E i j
theorem ZS2(E:List Ed)(e:Ed)(i j:Nat):lapE (E++[e]) i j=lapE E i j+e.2.2 * (ind e.1 e.2.1 i * ind e.1 e.2.1 j):=by
 induction E with
 | nil=>show _+0=0+_;omega
 | cons f E ih =>
  show _+lapE (E++[e]) i j=_+lapE E i j+_;rw[ih];omega
def edE(E:List Ed)(z:Int):Nat × Nat:=((E.getD z.toNat (0,0,0)).1,(E.getD z.toNat (0,0,0)).2.1)
def wtE(E:List Ed):List Int->Int
 | []=>1
 | z :: T=>(E.getD z.toNat (0,0,0)).2.2 * wtE E T
theorem Zv10(E:List Ed)(S T:List Int):wtE E (S++T)=wtE E S * wtE E T:=by
 induction S with
 | nil=>show _=1 * _;rw[Y0E];rfl
 | cons z S ih=>show _ * wtE E (S++T)=_ * _ * _;rw[ih,Y0m]
def IsT(k:Nat)(E:List Ed)(T:List Int):Prop:=IsSet E.length T/\T.length=k/\∀ i j,i<k+1->j<k+1->Conn (T.map (edE E)) i j
def TW(k:Nat)(E:List Ed)(s:Int):Prop:=∃ L:List (List Int),L.Nodup/\(∀ T,T∈L↔IsT k E T)/\(L.map (wtE E)).sum=s
theorem Yz8{E:List Ed}{e:Ed}{z:Int}(h0:0<=z)(h1:z<(E.length:Int)):(E++[e]).getD z.toNat (0,0,0)=E.getD z.toNat (0,0,0):=by rw[Yy3,Yy3,Yx (by omega)]
theorem ZB4(E:List Ed)(e:Ed):(E++[e]).getD (E.length:Int).toNat (0,0,0)=e:=by rw[Yy3,Yw,Yy (Yy7 _),Y1e];rfl
theorem ZA9{E:List Ed}{e:Ed}{T:List Int}(h:IsSet E.length T):T.map (edE (E++[e]))=T.map (edE E):=YL fun z hz=>by
 have:=h.all z hz
 unfold edE;rw[Yz8 this.1 this.2]
theorem Zo12{E:List Ed}{e:Ed}{T:List Int}(h:∀ z∈T,0<=z/\z<(E.length:Int)):wtE (E++[e]) T=wtE E T:=by
 induction T with
 | nil=>rfl
 | cons z T ih =>
  have hz:=h z Ye;show _ * wtE (E++[e]) T=_ * wtE E T
  rw[Yz8 hz.1 hz.2,ih fun y hy=>h y (Yg _ hy)]
theorem ZE7{k:Nat}{E:List Ed}{e:Ed}{T:List Int}(h:IsSet E.length T):IsT k (E++[e]) T↔IsT k E T:=by
 have h2:IsSet (E++[e]).length T:=by rw[Yy8];exact h.up
 constructor
 ·rintro⟨_,a,b⟩;exact⟨h,a,by rw[ZA9 h]at b;exact b⟩
 ·rintro⟨_,a,b⟩;exact⟨h2,a,by rw[ZA9 h];exact b⟩
theorem Za6{E:List Ed}{e:Ed}{T:List Int}(h:IsSet E.length T):(T++[(E.length:Int)]).map (edE (E++[e]))=T.map (edE E)++[(e.1,e.2.1)]:=by
 rw[YE,ZA9 h];show _++[edE (E++[e]) (E.length:Int)]=_
 unfold edE;rw[ZB4]
def sh(a x:Nat):Nat:=if x<a then x else x - 1
def dl(a b x:Nat):Nat:=if x=a then sh a b else sh a x
theorem Yz12(a y:Nat):sh a (sk a y)=y:=by
 unfold sk;by_cases h:y<a
 ·rw[if_pos h];unfold sh;rw[if_pos h]
 ·rw[if_neg h];unfold sh;rw[if_neg (by omega)];omega
theorem Zo13(a y:Nat):sk a y≠a:=by unfold sk;split <;> omega
theorem Zg12{a x:Nat}(h:x≠a):sk a (sh a x)=x:=by
 unfold sh;by_cases c:x<a
 ·rw[if_pos c];unfold sk;rw[if_pos c]
 ·rw[if_neg c];unfold sk;rw[if_neg (by omega)];omega
theorem Zk12(a b y:Nat):dl a b (sk a y)=y:=by unfold dl;rw[if_neg (Zo13 a y),Yz12]
theorem Zz39{a x y:Nat}(hx:x≠a)(hy:y≠a)(h:sh a x=sh a y):x=y:=by
 have:=Yy04 (sk a) h
 rw[Zg12 hx,Zg12 hy]at this;exact this
theorem ZU13{a b x y:Nat}(hne:b≠a)(h:dl a b x=dl a b y):x=y\/(x=a/\y=b)\/(x=b/\y=a):=by
 unfold dl at h;by_cases hx:x=a
 ·rw[if_pos hx]at h;by_cases hy:y=a
  ·exact .inl (hx.trans hy.symm)
  ·rw[if_neg hy]at h;exact .inr (.inl ⟨hx,(Zz39 hne hy h).symm⟩)
 ·rw[if_neg hx]at h;by_cases hy:y=a
  ·rw[if_pos hy]at h;exact .inr (.inr ⟨Zz39 hx hne h,hy⟩)
  ·rw[if_neg hy]at h;exact .inl (Zz39 hx hy h)
theorem ZV13(a b:Nat)(hne:b≠a):dl a b a=dl a b b:=by unfold dl;rw[if_pos rfl,if_neg hne]
theorem Zi10{a b:Nat}{es:List (Nat × Nat)}{i j:Nat}(hne:b≠a)(c:Conn (es++[(a,b)]) i j):Conn (es.map fun e=>(dl a b e.1,dl a b e.2)) (dl a b i) (dl a b j):=by
 induction c with
 | refl i=>exact .refl _
 | edge q =>
  rcases Yy9.mp q with q | q
  ·exact .edge (Yr.mpr ⟨_,q,rfl⟩)
  ·have e:=Yy1.mp q;injection e with e1 e2
   rw[e1,e2,ZV13 a b hne];exact .refl _
 | symm _ ih=>exact .symm ih
 | trans _ _ a b=>exact .trans a b
theorem Zh10{a b:Nat}{es:List (Nat × Nat)}{u v:Nat}(hne:b≠a)(c:Conn (es.map fun e=>(dl a b e.1,dl a b e.2)) u v):∀ i j,dl a b i=u->dl a b j=v->Conn (es++[(a,b)]) i j:=by
 have he:Conn (es++[(a,b)]) a b:=.edge (by simp);have same:∀ i j,dl a b i=dl a b j->Conn (es++[(a,b)]) i j:=fun i j e=>by
  rcases ZU13 hne e with e | ⟨e1,e2⟩ | ⟨e1,e2⟩
  ·rw[e];exact .refl _
  ·rw[e1,e2];exact he
  ·rw[e1,e2];exact he.symm
 induction c with
 | refl u=>exact fun i j e1 e2=>same i j (e1.trans e2.symm)
 | edge q =>
  intro i j e1 e2;obtain⟨⟨x,y⟩,hxy,e⟩:=Yr.mp q;injection e with x1 x2
  exact(same i x (e1.trans x1.symm)).trans (.trans (.edge (Yk _ hxy)) (same y j (x2.trans e2.symm)))
 | symm _ ih=>exact fun i j e1 e2=>(ih j i e2 e1).symm
 | @trans x y z _ _ ih1 ih2=>exact fun i j e1 e2=>(ih1 i (sk a y) e1 (Zk12 a b y)).trans (ih2 (sk a y) j (Zk12 a b y) e2)
theorem Zl12{a b x k:Nat}(ha:a<k+1)(hb:b<k+2)(hne:b≠a)(hx:x<k+2):dl a b x<k+1:=by
 unfold dl sh;by_cases h:x=a
 ·rw[if_pos h];split <;> omega
 ·rw[if_neg h];split <;> omega
theorem cdl{a b k:Nat}{es:List (Nat × Nat)}(ha:a<k+1)(hb:b<k+2)(hne:b≠a):(∀ i j,i<k+2->j<k+2->Conn (es++[(a,b)]) i j)↔∀ i j,i<k+1->j<k+1->Conn (es.map fun e=>(dl a b e.1,dl a b e.2)) i j:=by
 constructor
 ·intro c i j h1 h2
  have:=Zi10 hne (c (sk a i) (sk a j) (ZI5 h1) (ZI5 h2))
  rw[Zk12,Zk12]at this;exact this
 ·exact fun c i j h1 h2=>Zh10 hne (c _ _ (Zl12 ha hb hne h1) (Zl12 ha hb hne h2)) i j rfl rfl
def drE(a b:Nat)(E:List Ed):List Ed:=E.map fun e=>(dl a b e.1,dl a b e.2.1,e.2.2)
theorem ZC8{a b:Nat}{E:List Ed}{z:Int}(h0:0<=z)(h1:z<(E.length:Int)):(drE a b E).getD z.toNat (0,0,0)=(dl a b (E.getD z.toNat (0,0,0)).1,dl a b (E.getD z.toNat (0,0,0)).2.1,(E.getD z.toNat (0,0,0)).2.2):=by unfold drE;rw[Yy3,Yy3,Ym,Yy0 (by omega)];rfl
theorem ZB8{a b:Nat}{E:List Ed}{T:List Int}(h:IsSet E.length T):T.map (edE (drE a b E))=(T.map (edE E)).map fun e=>(dl a b e.1,dl a b e.2):=by
 rw[Y1B];refine YL fun z hz=>?_
 have:=h.all z hz
 unfold edE;rw[ZC8 this.1 this.2];rfl
theorem Zz913{a b:Nat}{E:List Ed}{T:List Int}(h:∀ z∈T,0<=z/\z<(E.length:Int)):wtE (drE a b E) T=wtE E T:=by
 induction T with
 | nil=>rfl
 | cons z T ih =>
  have hz:=h z Ye;show _ * wtE (drE a b E) T=_ * wtE E T
  rw[ZC8 hz.1 hz.2,ih fun y hy=>h y (Yg _ hy)]
theorem ZC11{k a b:Nat}{E:List Ed}{e:Ed}{T:List Int}(ha:a<k+1)(hb:b<k+2)(hne:b≠a)(he:(e.1=a/\e.2.1=b)\/(e.1=b/\e.2.1=a))(h:IsSet E.length T):IsT (k+1) (E++[e]) (T++[(E.length:Int)])↔IsT k (drE a b E) T:=by
 have hl:(drE a b E).length=E.length:=Yb ..;have hc:(∀ i j,i<k+2->j<k+2->Conn ((T++[(E.length:Int)]).map (edE (E++[e]))) i j)↔∀ i j,i<k+2->j<k+2->Conn (T.map (edE E)++[(a,b)]) i j:=by
  rw[Za6 h];rcases he with ⟨e1,e2⟩ | ⟨e1,e2⟩
  ·rw[e1,e2]
  ·rw[e1,e2];exact⟨fun c i j x y=>ZR4 (c i j x y),fun c i j x y=>ZR4 (c i j x y)⟩
 have h2:IsSet (E++[e]).length (T++[(E.length:Int)]):=by rw[Yy8];exact h.snoc
 constructor
 ·rintro⟨_,x,y⟩;refine⟨hl ▸ h,?_,?_⟩
  ·rw[Yy8,YM]at x;omega
  ·rw[ZB8 h];exact(cdl ha hb hne).mp (hc.mp y)
 ·rintro⟨_,x,y⟩;rw[ZB8 h]at y;refine⟨h2,by rw[Yy8,YM,x],hc.mpr ((cdl ha hb hne).mpr y)⟩
theorem ZL9{k:Nat}{E:List Ed}{e:Ed}{T:List Int}(hE:∀ f∈E,f.1<k+1/\f.2.1<k+1)(he:e.1=e.2.1)(h:IsSet E.length T):¬ IsT k (E++[e]) (T++[(E.length:Int)]):=by
 rintro⟨_,x,y⟩;rw[Za6 h]at y;have hcov:∀ i j,i<k+1->j<k+1->Conn (T.map (edE E)) i j:=fun i j hi hj=>(y i j hi hj).lift fun f hf=>by
  rcases Yy9.mp hf with q | q
  ·exact .edge q
  ·rw[Yy1.mp q,he];exact .refl _
 have hin:InN (k+1) (T.map (edE E)):=fun f hf=>by
  obtain⟨z,hz,rfl⟩:=Yr.mp hf
  have:=h.all z hz
  unfold edE;rw[Yy3,Yy0 (by omega)];exact hE _ (Y0j _)
 have h2:=(Zz21 (by omega) hin).mpr hcov;have h3:=ZU4 _ hin
 rw[Yb]at h3;rw[Yy8,YM]at x;omega
theorem ZA10{k:Nat}{E:List Ed}{e:Ed}{s:Int}(hE:∀ f∈E,f.1<k+1/\f.2.1<k+1)(he:e.1=e.2.1)(h:TW k E s):TW k (E++[e]) s:=by
 obtain⟨L,a1,a2,a3⟩:=h;refine⟨L,a1,fun T=>?_,?_⟩
 ·rw[a2];constructor
  ·exact fun h=>(ZE7 h.1).mpr h
  ·intro h;have hs:=h.1
   rw[Yy8]at hs;rcases ZL5 hs with c | ⟨T',c,c2⟩
   ·exact(ZE7 c).mp h
   ·exact absurd (c ▸ h) (ZL9 hE he c2)
 ·rw[<- a3];refine Yy04 List.sum (YL fun T hT=>Zo12 ((a2 T).mp hT).1.all)
theorem ZF10(a b:List Int):(a++b).sum=a.sum+b.sum:=by
 induction a with
 | nil=>rw[Y0L,List.sum_nil,Y1S]
 | cons x a ih=>rw[Y1C,Yy05,Yy05,ih];omega
theorem Zd7(w:Int)(l:List (List Int))(f:List Int->Int):(l.map fun T=>f T * w).sum=w * (l.map f).sum:=by
 induction l with
 | nil=>rw[List.map_nil,List.map_nil,List.sum_nil,Y0y]
 | cons x l ih=>rw[YI,YI,Yy05,Yy05,ih,Y1K,Y0T]
theorem Zz10{k a b:Nat}{E:List Ed}{e:Ed}{s1 s2:Int}(ha:a<k+1)(hb:b<k+2)(hne:b≠a)(he:(e.1=a/\e.2.1=b)\/(e.1=b/\e.2.1=a))(h1:TW (k+1) E s1)(h2:TW k (drE a b E) s2):TW (k+1) (E++[e]) (s1+e.2.2 * s2):=by
 obtain⟨L,a1,a2,a3⟩:=h1;obtain⟨M,b1,b2,b3⟩:=h2;have hl:(drE a b E).length=E.length:=Yb ..
 refine⟨L++M.map (·++[(E.length:Int)]),Yy06.mpr ⟨a1,?_,fun x hx y hy c=>?_⟩,fun T=>?_,?_⟩
 ·exact List.Pairwise.map _ (fun x y h c=>h (List.append_cancel_right c)) b1
 ·obtain⟨z,hz,c2⟩:=Yr.mp hy
  have:=((a2 x).mp hx).1.all (E.length:Int) (by rw[c,<- c2];simp)
  omega
 ·rw[Yy9,a2,Yr];constructor
  ·rintro(h | ⟨T',hT,rfl⟩)
   ·exact(ZE7 h.1).mpr h
   ·have:=(b2 T').mp hT
    exact(ZC11 ha hb hne he (hl ▸ this.1)).mpr this
  ·intro h;have hs:=h.1
   rw[Yy8]at hs;rcases ZL5 hs with c | ⟨T',c,c2⟩
   ·exact .inl ((ZE7 c).mp h)
   ·exact .inr ⟨T',(b2 T').mpr ((ZC11 ha hb hne he c2).mp (c ▸ h)),c.symm⟩
 ·rw[YE,ZF10,Y1B];have e1:L.map (wtE (E++[e]))=L.map (wtE E):=YL fun T hT=>Zo12 ((a2 T).mp hT).1.all
  have e2:M.map (wtE (E++[e]) ∘ (·++[(E.length:Int)]))=M.map fun T=>wtE (drE a b E) T * e.2.2:=YL fun T hT=>by
   have hs:IsSet E.length T:=hl ▸ ((b2 T).mp hT).1;show wtE (E++[e]) (T++[(E.length:Int)])=_
   rw[Zv10,Zo12 hs.all,Zz913 hs.all];show _ * (((E++[e]).getD (E.length:Int).toNat (0,0,0)).2.2 * 1)=_
   rw[ZB4,Y1n]
  rw[e1,e2,a3,Zd7,b3]
theorem ZF11{a b u v i:Nat}(hne:b≠a):ind (dl a b u) (dl a b v) i=ind u v (sk a i)+(if sk a i=b then ind u v a else 0):=by
 have key:∀ x:Nat,((if i=dl a b x then 1 else 0:Int))=(if sk a i=x then 1 else 0)+(if sk a i=b then (if a=x then 1 else 0) else 0):=fun x=>by
  unfold dl;by_cases hx:x=a
  ·rw[if_pos hx,if_neg (show ¬ sk a i=x from hx ▸ Zo13 a i),Y1S];by_cases h:sk a i=b
   ·rw[if_pos h,if_pos hx.symm,if_pos];rw[<- h,Yz12]
   ·rw[if_neg h,if_neg];intro e;exact h (by rw[e,Zg12 hne])
  ·rw[if_neg hx];have e2:(if sk a i=b then (if a=x then 1 else 0:Int) else 0)=0:=by rw[if_neg (Yy03 hx)];split <;> rfl
   rw[e2,Y0F];by_cases h:sk a i=x
   ·rw[if_pos h,if_pos];rw[<- h,Yz12]
   ·rw[if_neg h,if_neg];intro e;exact h (by rw[e,Zg12 hx])
 unfold ind;rw[key u,key v];by_cases h:sk a i=b
 ·rw[if_pos h,if_pos h,if_pos h];omega
 ·rw[if_neg h,if_neg h,if_neg h];omega
theorem Zn8{a b:Nat}(hne:b≠a)(i j:Nat):∀ E:List Ed,lapE (drE a b E) i j=Zs5 (lapE E) a b (sk a i) (sk a j)
 | []=>by
  show(0:Int)=_;unfold Zs5 lapE;by_cases h:sk a i=b
  ·by_cases h2:sk a j=b
   ·rw[if_pos h,if_pos h2];rfl
   ·rw[if_pos h,if_neg h2];rfl
  ·by_cases h2:sk a j=b
   ·rw[if_neg h,if_pos h2];rfl
   ·rw[if_neg h,if_neg h2];rfl
 | e :: E=>by
  have ih:=Zn8 hne i j E;show e.2.2 * (ind (dl a b e.1) (dl a b e.2.1) i * ind (dl a b e.1) (dl a b e.2.1) j)+lapE (drE a b E) i j=_
  rw[ih,ZF11 hne,ZF11 hne];unfold Zs5;show _=(e.2.2 * (ind e.1 e.2.1 (sk a i) * ind e.1 e.2.1 (sk a j))+lapE E (sk a i) (sk a j)+(if sk a i=b then e.2.2 * (ind e.1 e.2.1 a * ind e.1 e.2.1 (sk a j))+lapE E a (sk a j) else 0))+(if sk a j=b then (e.2.2 * (ind e.1 e.2.1 (sk a i) * ind e.1 e.2.1 a)+lapE E (sk a i) a)+(if sk a i=b then e.2.2 * (ind e.1 e.2.1 a * ind e.1 e.2.1 a)+lapE E a a else 0) else 0)
  generalize ind e.1 e.2.1 (sk a i)=x;generalize ind e.1 e.2.1 (sk a j)=y;generalize ind e.1 e.2.1 a=z;generalize e.2.2=w;by_cases h:sk a i=b
  ·by_cases h2:sk a j=b
   ·simp only [if_pos h,if_pos h2,Y1K,Y2X];omega
   ·simp only [if_pos h,if_neg h2,Y1K,Y2X,Y0F,Y0y];omega
  ·by_cases h2:sk a j=b
   ·simp only [if_neg h,if_pos h2,Y1K,Y2X,Y0F,Y2e];omega
   ·simp only [if_neg h,if_neg h2,Y0F]
theorem Zp6(u v i:Nat):ind v u i=- ind u v i:=by unfold ind;omega
theorem ZY11{k a b:Nat}{E:List Ed}{e:Ed}(ha:a<k+1)(hb:b<k+2)(hne:b≠a)(he:(e.1=a/\e.2.1=b)\/(e.1=b/\e.2.1=a)):det (k+1) (lapE (E++[e]))=det (k+1) (lapE E)+e.2.2 * det k (lapE (drE a b E)):=by
 have e1:det (k+1) (lapE (E++[e]))=det (k+1) (fun i j=>lapE E i j+e.2.2 * (ind a b i * ind a b j)):=Zh fun i j _ _=>by
  rw[ZS2];rcases he with ⟨x,y⟩ | ⟨x,y⟩
  ·rw[x,y]
  ·rw[x,y,Zp6 a b i,Zp6 a b j,Int.neg_mul_neg]
 have e2:det k (lapE (drE a b E))=det k (fun i j=>Zs5 (lapE E) a b (sk a i) (sk a j)):=Zh fun i j _ _=>Zn8 hne i j E;rw[e1,e2];by_cases hk:b<k+1
 ·exact ZW11 ha hk (Yy03 hne)
 ·have e3:det (k+1) (fun i j=>lapE E i j+e.2.2 * (ind a b i * ind a b j))=det (k+1) (fun i j=>lapE E i j+e.2.2 * ((if i=a then 1 else 0) * (if j=a then 1 else 0))):=Zh fun i j hi hj=>by unfold ind;rw[if_neg (show ¬ i=b by omega),if_neg (show ¬ j=b by omega),Y2K,Y2K]
  have e4:det k (fun i j=>Zs5 (lapE E) a b (sk a i) (sk a j))=det k (fun i j=>lapE E (sk a i) (sk a j)):=Zh fun i j hi hj=>by
   have h1:=ZI5 (j:=a) hi;have h2:=ZI5 (j:=a) hj
   unfold Zs5;rw[if_neg (show ¬ sk a i=b by omega),if_neg (show ¬ sk a j=b by omega),Y0F,Y0F]
  rw[e3,e4];exact ZN6 ha
theorem Zs4{E:List Ed}{e:Ed}(he:e.1=e.2.1):lapE (E++[e])=lapE E:=by
 funext i j
 rw[ZS2,he];unfold ind;rw[Int.sub_self,Y2e,Y0y,Y0F]
theorem Zq1:∀(m k:Nat) (E:List Ed),E.length=m->(∀ e∈E,e.1<k+1/\e.2.1<k+1)->TW k E (det k (lapE E))
 | 0,k,E,hm,_=>by
  obtain rfl:=YK.mp hm;cases k with
  | zero =>
   refine⟨[[]],by simp,fun T=>?_,rfl⟩;rw[Yy1];constructor
   ·rintro rfl;exact⟨IsSet.nil _,rfl,fun i j hi hj=>by
     have:i=j:=by omega
     rw[this];exact .refl j⟩
   ·intro h;exact YK.mp h.2.1
  | succ k =>
   refine⟨[],.nil,fun T=>⟨fun h=>(by cases h),fun h=>?_⟩,?_⟩
   ·have h1:=h.1.len;have h2:=h.2.1
    rw[Yy17]at h1;omega
   ·exact(ZI6 (i:=0) (by omega) fun j _=>rfl).symm
 | m+1,k,E,hm,hE=>by
  obtain⟨E',e,rfl⟩:∃ E' e,E=E'++[e]:=⟨E.dropLast,E.getLast (fun h=>by rw[h]at hm;cases hm),(Y2I _).symm⟩;have hm':E'.length=m:=by rw[Yy8]at hm;simpa using hm
  have hE':∀ f∈E',f.1<k+1/\f.2.1<k+1:=fun f hf=>hE f (Yk _ hf);have he:=hE e (by simp)
  have ih:=Zq1 m k E' hm' hE';by_cases hl:e.1=e.2.1
  ·rw[Zs4 hl];exact ZA10 hE' hl ih
  ·obtain⟨k',rfl⟩:∃ k',k=k'+1:=⟨k - 1,by omega⟩;obtain⟨a,b,ha,hb,hne,hab⟩:∃ a b,a<k'+1/\b<k'+2/\b≠a/\((e.1=a/\e.2.1=b)\/(e.1=b/\e.2.1=a)):=by
    by_cases c:e.1<k'+1
    ·exact⟨e.1,e.2.1,c,he.2,fun h=>hl h.symm,.inl ⟨rfl,rfl⟩⟩
    ·exact⟨e.2.1,e.1,by omega,he.1,hl,.inr ⟨rfl,rfl⟩⟩
   have ih2:=Zq1 m k' (drE a b E') (by unfold drE;rw[Yb];exact hm') fun f hf=>by
    obtain⟨g,hg,rfl⟩:=Yr.mp hf
    have:=hE' g hg
    exact⟨Zl12 ha hb hne this.1,Zl12 ha hb hne this.2⟩
   rw[ZY11 ha hb hne hab];exact Zz10 ha hb hne hab ih ih2
def ZP1(ps:List (Int × Int))(ws:List Int):List Ed:=List.zipWith (fun p w=>(p.1.toNat,p.2.toNat,w)) ps ws
theorem Zp8{n:Int}{ps:List (Int × Int)}{ws:List Int}{T:List Int}(h1:1<=n)(hw:ws.length=ps.length):IsT (n - 1).toNat (ZP1 ps ws) T↔Zd n ps T:=by
 have hl:(ZP1 ps ws).length=ps.length:=by unfold ZP1;rw[Y1j];omega
 have hm:IsSet ps.length T->T.map (edE (ZP1 ps ws))=Zz8 ps T:=fun hs=>YL fun z hz=>by
  have:=hs.all z hz
  unfold edE ZP1;rw[Yy3,Y0N,Yy0 (by omega),Yy0 (show z.toNat<ws.length by omega),Yy3,Yy0 (by omega)];rfl
 unfold IsT Zd;rw[hl];constructor
 ·rintro⟨a,b,c⟩;rw[hm a]at c;exact⟨a,by omega,fun i j hi hj=>c i j (by omega) (by omega)⟩
 ·rintro⟨a,b,c⟩;rw[hm a];exact⟨a,by omega,fun i j hi hj=>c i j (by omega) (by omega)⟩
theorem Zu10{E:List Ed}(h:∀ e∈E,e.2.2=1):∀ {T:List Int},(∀ z∈T,0<=z/\z<(E.length:Int))->wtE E T=1
 | [],_=>rfl
 | z :: T,hb=>by
  have hz:=hb z Ye;show(E.getD z.toNat (0,0,0)).2.2 * wtE E T=1
  rw[Zu10 h fun y hy=>hb y (Yg _ hy),Y1n,Yy3,Yy0 (by omega)];exact h _ (Y0j _)
theorem ZT8{l:List (List Int)}{f:List Int->Int}(h:∀ T∈l,f T=1):(l.map f).sum=(l.length:Int):=by
 induction l with
 | nil=>rfl
 | cons x l ih =>
  rw[YI,Yy05,ih fun T hT=>h T (Yg _ hT),h x Ye,YA];omega
theorem ZU11{n:Int}{ps:List (Int × Int)}(g:Zu n ps)(ws:List Int):∀ e∈ZP1 ps ws,e.1<(n - 1).toNat+1/\e.2.1<(n - 1).toNat+1:=fun e he=>by
 unfold ZP1 at he;obtain⟨i,hi⟩:=YZ he;rw[Y0N]at hi;have g1:=g.1
 cases h1:ps[i]? with
 | none=>rw[h1]at hi;cases hi
 | some p =>
  cases h2:ws[i]? with
  | none=>rw[h1,h2]at hi;cases hi
  | some w =>
   rw[h1,h2]at hi;obtain rfl:=Yc hi;obtain⟨a,b,c,d⟩:=g.2.2.2 p (Yy6 h1);exact⟨by show p.1.toNat<_;omega,by show p.2.toNat<_;omega⟩
theorem ZR8{n:Int}{ps:List (Int × Int)}(g:Zu n ps){L:List (List Int)}(hL:L.Nodup)(hm:∀ l,l∈L↔Zd n ps l):det (n - 1).toNat (lapE (ZP1 ps (List.replicate ps.length 1)))=(L.length:Int):=by
 have g1:=g.1;have hw:(List.replicate ps.length (1:Int)).length=ps.length:=YC
 obtain⟨M,a1,a2,a3⟩:=Zq1 _ (n - 1).toNat (ZP1 ps (List.replicate ps.length 1)) rfl (ZU11 g _);have hl:(ZP1 ps (List.replicate ps.length 1)).length=ps.length:=by unfold ZP1;rw[Y1j,hw];omega
 have w1:∀ e∈ZP1 ps (List.replicate ps.length (1:Int)),e.2.2=1:=fun e he=>by
  unfold ZP1 at he;obtain⟨i,hi⟩:=YZ he;rw[Y0N]at hi;cases h1:ps[i]? with
  | none=>rw[h1]at hi;cases hi
  | some p =>
   cases h2:(List.replicate ps.length (1:Int))[i]? with
   | none=>rw[h1,h2]at hi;cases hi
   | some w =>
    rw[h1,h2]at hi;obtain rfl:=Yc hi;exact Y1k (Yy6 h2)
 rw[<- a3,ZT8 fun T hT=>Zu10 w1 ((a2 T).mp hT).1.all];have hp:M.Perm L:=(Y0r a1 hL).mpr fun l=>by rw[a2,hm,Zp8 g1 hw]
 rw[hp.length_eq]
end My
namespace L2
open PySem PySem.Spec PyProof.Rows
section
variable{X:Cx}
def ZH13(K:PySem.W.Frag):V->V->Hp->VK->Prop:=fun x y H Q=>∃ p xs i v,x=.ref p/\y=.int i/\SqL K H p xs/\0<=i/\xs[i.toNat]?=some v/\Q v H
theorem ZY1(K:PySem.W.Frag)(hk:X.K=K:=by rfl):PGet X (ZH13 K):=by
 subst hk;intro pins s σ H o i ov iv Q I ro ri h;obtain⟨p,xs,j,z,rfl,rfl,hq,h0,he,q⟩:=h;cases ro;obtain⟨t,rfl⟩:=ri;obtain⟨its,r,pl,hz⟩:=I.list hq;obtain⟨w,ew,rw'⟩:=r.get he;have hl:=r.length
 have hn:=Zi6;have hlt:=(Yy2.mp he).1
 exact wpAny_getItem_list pl.isList h0 (by omega) (by simpa using ew) ⟨z,H,I,rw',q⟩
end
end L2
namespace My
open PySem L2
theorem ZM11{K:PySem.W.Frag}{a b:Addr}{xs ys:List V}{g:TG}{tb:TS}{D:Ends}{σ:St}{H:Hp}(hxy:xs.length=ys.length)(Pv:Nat->St->Hp->Prop)(h0:Pv 0 σ H)(hl:∀ i σ H,i<=xs.length->Pv i σ H->SqL K H a xs/\SqL K H b ys)
  (hs:∀(i:Nat) x y σ H (p:Addr),H p=none->xs[i]?=some x->ys[i]?=some y->Pv i σ H->g (.ref p) σ (upd H p (.tup [x,y])) fun σ2 H2=>tb { D with nx:=Pv (i+1),ct:=Pv (i+1),bk:=D.nx } σ2 H2) (hd:∀ σ H,Pv xs.length σ H->D.nx σ H) :
  ∃ W:Nat->Nat->St->Hp->Prop,(∃ m,W 0 m σ H)/\∀ i m σ H,W i m σ H ->
   ((Itz K a b).stop i H/\D.nx σ H)\/((Itz K a b).go i H/\∃ N:St->Hp->Prop,(∀ σ' H',N σ' H'->∃ m',m'<m/\W (i+1) m' σ' H')/\∀ x H',(Itz K a b).yld i H x H'->g x σ H' fun σ2 H2=>tb { D with nx:=N,ct:=N,bk:=D.nx } σ2 H2):=by
 refine⟨fun i m σ H=>m=xs.length - i/\i<=xs.length/\Pv i σ H,⟨xs.length,by simp,Yj _,h0⟩,?_⟩;rintro i m σ H ⟨rfl,hi,p⟩;obtain⟨q,q2⟩:=hl i σ H hi p;by_cases hlt:i<xs.length
 ·refine .inr ⟨⟨xs,ys,xs[i],ys[i]'(by omega),q,q2,by simp[hlt],Yy0 (by omega)⟩,Pv (i+1),fun σ' H' p'=>⟨xs.length - (i+1),by omega,rfl,hlt,p'⟩,fun x H' ⟨T,u,v,hT,ex,eH,hu,hv⟩=>?_⟩;subst ex eH;exact hs i u v σ H T hT (hu xs q) (hv ys q2) p
 ·have e:i=xs.length:=by omega
  subst e;exact .inl ⟨⟨xs,ys,q,q2,.inl (Yy7 _)⟩,hd σ H p⟩
structure TabAt (H0:Hp) (r:Addr) (n:Nat) (H:Hp) (ys:List V) (L:List (List Int)):Prop where
 tab:H r=some (.lst ys)
 rows:Bears (LiV r H) ys L
 len:L.length=n
 all:∀ l∈L,l.length=n
 nd:ys.Nodup
 new:∀ A,V.ref A∈ys->H0 A=none
theorem TabAt.same{H0 H H':Hp}{r:Addr}{n:Nat}{ys:List V}{L:List (List Int)}(s:Same H H')(h:TabAt H0 r n H ys L):TabAt H0 r n H' ys L:=⟨s _ _ h.tab,h.rows.imp fun _ _ q=>q.same s,h.len,h.all,h.nd,h.new⟩
theorem TabAt.at{H0 H:Hp}{r:Addr}{n:Nat}{ys:List V}{L:List (List Int)}(h:TabAt H0 r n H ys L){i:Nat}(hi:i<n):∃(A:Addr) (l:List Int),ys[i]?=some (.ref A)/\L[i]?=some l/\H A=some (.lst (IL l))/\l.length=n/\H0 A=none/\A≠r:=by have hl:=h.len;obtain⟨l,e⟩:∃ l,L[i]?=some l:=⟨_,Yy0 (by omega)⟩;obtain⟨v,e1,A,rfl,e2,e3⟩:=h.rows.2 i l e;exact⟨A,l,e1,e,e2,h.all l (Yy6 e),h.new A (Yy6 e1),e3⟩
theorem TabAt.put{H0 H:Hp}{r:Addr}{n:Nat}{ys:List V}{L:List (List Int)}(h:TabAt H0 r n H ys L){i:Nat}{A:Addr}{l l':List Int}(e1:ys[i]?=some (.ref A))(e2:L[i]?=some l)(e3:A≠r)(hl:l'.length=n):TabAt H0 r n (upd H A (.lst (IL l'))) ys (L.set i l'):=by
 have hi:=(Yy2.mp e2).1;have hil:=(Yy2.mp e1).1
 refine⟨by rw[Zc (Yy03 e3)];exact h.tab,⟨by rw[Y0A];exact h.rows.1,fun j m em=>?_⟩,by rw[Y0A];exact h.len,fun m hm=>?_,h.nd,h.new⟩
 ·rw[Y0x]at em;by_cases c:i=j
  ·subst c;rw[if_pos rfl,if_pos hi]at em;obtain rfl:=Yc em;exact⟨_,e1,A,rfl,Zz1,e3⟩
  ·rw[if_neg c]at em;obtain⟨v,f1,B,rfl,f2,f3⟩:=h.rows.2 j m em;refine⟨_,f1,B,rfl,?_,f3⟩;rw[Zc]
   ·exact f2
   ·intro e;rw[e]at f1;exact c (nodup_get h.nd e1 f1)
 ·rcases List.mem_or_eq_of_mem_set hm with e | e
  ·exact h.all m e
  ·rw[e];exact hl
theorem ZN11{L:List (List Int)}{l:List Int}{i j:Nat}{x:Int}(hi:L[i]?=some l)(hj:j<l.length)(a b:Nat):fnL (L.set i (l.set j x)) a b=if a=i/\b=j then x else fnL L a b:=by
 have hil:=(Yy2.mp hi).1;unfold fnL;by_cases ha:a=i
 ·subst ha;have e1:(L.set a (l.set j x)).getD a []=l.set j x:=by rw[Yy3,Y0x,if_pos rfl,if_pos hil];rfl
  have e2:L.getD a []=l:=by rw[Yy3,hi];rfl
  rw[e1,e2];by_cases hb:b=j
  ·subst hb;rw[if_pos ⟨rfl,rfl⟩,Yy3,Y0x,if_pos rfl,if_pos hj];rfl
  ·rw[if_neg (fun h=>hb h.2),Yy3,Y0x,if_neg (Yy03 hb),<- Yy3]
 ·have e1:(L.set i (l.set j x)).getD a []=L.getD a []:=by rw[Yy3,Yy3,Y0x,if_neg (Yy03 ha)]
  rw[e1,if_neg (fun h=>ha h.1)]
theorem four{A:Mx}{u v:Nat}{w:Int}(hne:u≠v)(a b:Nat){B C D E:Mx}(h1:∀ a b,B a b=if a=u/\b=u then A u u+w else A a b)(h2:∀ a b,C a b=if a=v/\b=v then B v v+w else B a b)(h3:∀ a b,D a b=if a=u/\b=v then C u v - w else C a b)(h4:∀ a b,E a b=if a=v/\b=u then D v u - w else D a b):E a b=A a b+w * (ind u v a * ind u v b):=by
 have nv:¬ v=u:=Yy03 hne;unfold ind;by_cases x1:a=u
 ·subst x1;by_cases y1:b=a
  ·subst y1;simp[h4,h3,h2,h1,hne,nv]
  ·by_cases y2:b=v
   ·subst y2;simp[h4,h3,h2,h1,hne,nv];omega
   ·simp[h4,h3,h2,h1,hne,nv,y1,y2]
 ·by_cases x2:a=v
  ·subst x2;by_cases y1:b=u
   ·subst y1;simp[h4,h3,h2,h1,hne,nv];omega
   ·by_cases y2:b=a
    ·subst y2;simp[h4,h3,h2,h1,hne,nv]
    ·simp[h4,h3,h2,h1,hne,nv,y1,y2]
  ·simp[h4,h3,h2,h1,hne,nv,x1,x2]
theorem Zz310{ps:List (Int × Int)}{ws:List Int}{i:Nat}{p:Int × Int}{w:Int}(hp:ps[i]?=some p)(hw:ws[i]?=some w):ZP1 (ps.take (i+1)) (ws.take (i+1))=ZP1 (ps.take i) (ws.take i)++[(p.1.toNat,p.2.toNat,w)]:=by
 have h1:=(Yy2.mp hp).1;have h2:=(Yy2.mp hw).1
 unfold ZP1;rw[YO,YO,hp,hw];rw[List.zipWith_append (by rw[Yz,Yz];omega)];rfl
theorem Conn.image{es fs:List (Nat × Nat)}{f:Nat->Nat}(h:∀ e∈es,Conn fs (f e.1) (f e.2)){i j:Nat}(c:Conn es i j):Conn fs (f i) (f j):=by
 induction c with
 | refl i=>exact .refl _
 | edge e=>exact h _ e
 | symm _ ih=>exact ih.symm
 | trans _ _ ih1 ih2=>exact ih1.trans ih2
theorem Ze10{n:Int}{ps:List (Int × Int)}{T:List Int}(g:Zu n ps)(h:IsSet ps.length T)(c:∀ i j,i<n.toNat->j<n.toNat->Conn (Zz8 ps T) i j):n - 1<=(T.length:Int):=by
 have g1:=g.1;have hin:=ZK (ns:=T) g h.all
 have h2:=(Zz21 (by omega) hin).mpr c;have h3:=ZU4 _ hin
 rw[show(Zz8 ps T).length=T.length from Yb ..]at h3;omega
end My
namespace L2
open PySem
def Ris(t:SetTable):Prop:=t.place.toList.Pairwise (· < ·)
theorem Zz55{xs:Array Nat}(h:xs.toList.Pairwise (· < ·)){i k a b:Nat}(hik:i<k)(ha:xs[i]?=some a)(hb:xs[k]?=some b):a<b:=by rw[<- YV]at ha hb;obtain⟨h1,e1⟩:=Yy2.mp ha;obtain⟨h2,e2⟩:=Yy2.mp hb;rw[<- e1,<- e2];exact Yy00.mp h i k h1 h2 hik
theorem Zz83{xs:Array Nat}{j:Nat}(h:xs.toList.Pairwise (· < ·)):∀(f lo hi:Nat),hi - lo<=f->lo<=hi->hi<=xs.size->(∀ i v,xs[i]?=some v->i<lo->v<j)->(∀ i v,xs[i]?=some v->hi<=i->j<=v) ->
  SetTable.below.go xs j f lo hi<=xs.size/\∀ i v,xs[i]?=some v->(i<SetTable.below.go xs j f lo hi↔v<j)
 | 0,lo,hi,hf,hl,hs,a,b=>by
  have e:lo=hi:=by omega
  unfold SetTable.below.go;refine⟨by omega,fun i v hv=>⟨a i v hv,fun hvj=>Nat.lt_of_not_le fun hc=>?_⟩⟩
  have:=b i v hv (by omega)
  omega
 | f+1,lo,hi,hf,hl,hs,a,b=>by
  unfold SetTable.below.go;by_cases c:lo<hi
  ·rw[if_pos c];dsimp only;obtain⟨m,hm⟩:∃ m,xs[(lo+hi) / 2]?=some m:=⟨_,YH (by omega)⟩;have em:xs.getD ((lo+hi) / 2) j=m:=by rw[Yv,hm];rfl
   rw[em];by_cases d:m<j
   ·rw[if_pos d];refine Zz83 h f _ hi (by omega) (by omega) hs (fun i v hv hi2=>?_) b;by_cases e:i=(lo+hi) / 2
    ·rw[e,hm]at hv;exact Yc hv ▸ d
    ·have:=Zz55 h (show i<(lo+hi) / 2 by omega) hv hm
     omega
   ·rw[if_neg d];refine Zz83 h f lo _ (by omega) (by omega) (by omega) a fun i v hv hi2=>?_;by_cases e:i=(lo+hi) / 2
    ·rw[e,hm]at hv
     have:=Yc hv
     omega
    ·have:=Zz55 h (show(lo+hi) / 2<i by omega) hm hv
     omega
  ·rw[if_neg c];refine⟨by omega,fun i v hv=>⟨a i v hv,fun hvj=>Nat.lt_of_not_le fun hc=>?_⟩⟩
   have:=b i v hv (by omega)
   omega
theorem Zt1{xs:Array Nat}(h:xs.toList.Pairwise (· < ·))(j:Nat):SetTable.below xs j<=xs.size/\∀ i v,xs[i]?=some v->(i<SetTable.below xs j↔v<j) :=
 Zz83 h xs.size 0 xs.size (by omega) (Yj _) (Yy7 _) (fun i v _ h=>absurd h (Yy08 _)) fun i v hv hi=>by rw[Y1q hi]at hv;cases hv
theorem Zk10{xs:Array Nat}(h:xs.toList.Pairwise (· < ·)){i v:Nat}(hv:xs[i]?=some v):SetTable.below xs v=i:=by
 obtain⟨h1,h2⟩:=Zt1 h v;have a:¬ i<SetTable.below xs v:=fun q=>by have:=(h2 i v hv).mp q;omega
 refine Y2P (by omega) (Y1z fun q=>?_);have hlt:=(Array.getElem?_eq_some_iff.mp hv).1
 obtain⟨u,hu⟩:∃ u,xs[SetTable.below xs v]?=some u:=⟨_,YH (by omega)⟩;have b:=Zz55 h q hu hv
 have:=(h2 _ u hu).mpr b
 omega
theorem Zz67{xs:Array Nat}(h:xs.toList.Pairwise (· < ·)){i v:Nat}(hv:xs[i]?=some v):SetTable.below xs (v+1)=i+1:=by
 obtain⟨h1,h2⟩:=Zt1 h (v+1);have a:=(h2 i v hv).mpr (Y0s v)
 refine Y2P (Y1z fun q=>?_) a;obtain⟨u,hu⟩:∃ u,xs[i+1]?=some u:=⟨_,YH (by omega)⟩;have b:=(h2 _ u hu).mp q
 have:=Zz55 h (Y0s i) hv hu
 omega
theorem Zz57{xs:Array Nat}(h:xs.toList.Pairwise (· < ·)):SetTable.below xs 0=0:=by obtain⟨h1,h2⟩:=Zt1 h 0;refine Nat.le_zero.mp (Y1z fun q=>?_);obtain⟨u,hu⟩:∃ u,xs[0]?=some u:=⟨_,YH (by omega)⟩;exact Yy08 _ ((h2 _ u hu).mp q)
def Zp5(t:SetTable)(j:Nat):Prop:=t.place[SetTable.below t.place j]?≠some j
theorem ZT10{t:SetTable}{j:Nat}(h:Ris t)(hn:Zp5 t j):Ris (t.put j).1:=by
 obtain⟨h1,h2⟩:=Zt1 h j;have up:∀ i v,t.place[i]?=some v->SetTable.below t.place j<=i->j<v:=fun i v hv hi=>by
  have a:¬ v<j:=fun q=>by have:=(h2 i v hv).mpr q;omega
  have b:v≠j:=fun e=>hn (by rw[e]at hv;rw[Zk10 h hv];exact hv);omega
 show(SetTable.insertAt t.place (SetTable.below t.place j) j).toList.Pairwise (· < ·);rw[SetTable.toList_insertAt];have dn:∀ x∈t.place.toList.take (SetTable.below t.place j),x<j:=fun x hx=>by
  obtain⟨i,hi⟩:=YZ hx;rw[Y2m]at hi;split at hi
  ·rename_i q;rw[YV]at hi;exact(h2 i x hi).mp q
  ·cases hi
 have ub:∀ x∈t.place.toList.drop (SetTable.below t.place j),j<x:=fun x hx=>by obtain⟨i,hi⟩:=YZ hx;rw[List.getElem?_drop,YV]at hi;exact up _ x hi (Nat.le_add_right _ _)
 refine YY.mpr ⟨Y3g (Y1r _ _) h,Yy01.mpr ⟨ub,Y3g (List.drop_sublist _ _) h⟩,fun a ha b hb=>?_⟩;rcases Yh.mp hb with e | e
 ·rw[e];exact dn a ha
 ·exact Nat.lt_trans (dn a ha) (ub b e)
theorem Zh3{t:SetTable}{j:Nat}(h:t.slot j=.empty\/t.slot j=.dummy):Zp5 t j:=fun e=>by
 have e2:t.slot j=.live (SetTable.below t.place j):=by unfold SetTable.slot;dsimp only;rw[if_pos (by rw[e];simp)]
 rw[e2]at h;rcases h with h | h <;> cases h
theorem Zz82{t:SetTable}{f:Nat->Int}{h:Int}:∀(n:Nat) (p:SetTable.Probe) (j:Nat) (d:Option Nat),(∀ e,p.dummy=some e->Zp5 t e)->SetTable.probe.go t f h n p=some (.empty j d)->Zp5 t j/\∀ e,d=some e->Zp5 t e
 | 0,p,j,d,_,h=>by cases h
 | n+1,p,j,d,hp,h=>by
  have adv:∀ q:SetTable.Probe,(t.advance q).dummy=q.dummy:=fun q=>by unfold SetTable.advance;split <;> rfl
  unfold SetTable.probe.go at h;split at h
  ·rename_i hs;cases h;exact⟨Zh3 (.inl hs),hp⟩
  ·rename_i hs;exact Zz82 n _ j d (fun e he=>by rw[adv]at he;cases he;exact Zh3 (.inr hs)) h
  ·split at h
   ·cases h
   ·exact Zz82 n _ j d (fun e he=>hp e (by rw[adv]at he;exact he)) h
theorem ZO7{t:SetTable}{h:Int}{s:Nat}{b:Bool}(e:t.freeSlot h=some (s,b)):Zp5 t s:=by
 unfold SetTable.freeSlot at e;split at e
 ·rename_i j d hp;obtain⟨a1,a2⟩:=Zz82 _ _ j d (fun e he=>by cases he) hp;have e1:=Yy04 Prod.fst (Yc e)
  dsimp only at e1;rw[<- e1];cases d with
  | none=>exact a1
  | some x=>exact a2 x rfl
 ·cases e
theorem ZV1(t:SetTable)(n:Nat):Ris (t.standIn n):=by show(Array.range n).toList.Pairwise (· < ·);rw[Array.toList_range];exact Yy11
theorem ZU10{t:SetTable}(h:Ris t)(es:Array (Int × Value))(k:Int)(x:Value):Ris (layNew t es k x).2.1/\(layNew t es k x).2.1.led=t.led:=by
 unfold layNew;split
 ·rename_i s b e;dsimp only;unfold SetTable.orStandIn;split
  ·exact⟨ZT10 h (ZO7 e),rfl⟩
  ·exact⟨ZV1 _ _,rfl⟩
 ·exact⟨ZV1 _ _,rfl⟩
theorem Zk7{t:SetTable}(h:Ris t)(es:Array (Int × Value))(n:Nat):Ris (relayAll t es n).2.1/\(relayAll t es n).2.1.led=t.led:=by
 unfold relayAll;split
 ·rename_i t' order e;dsimp only;split
  ·unfold SetTable.relaid SetTable.laid at e;cases ho:SetTable.layClean (SetTable.sizeAbove n - 1) (es.map (·.1)) with
   | none=>rw[ho]at e;cases e
   | some owner =>
    rw[ho]at e;have e1:=Yy04 Prod.fst (Yc e)
    dsimp only at e1;rw[<- e1];refine⟨?_,rfl⟩;show(List.map _ (List.filterMap _ _)).toArray.toList.Pairwise (· < ·)
    rw[List.toList_toArray,Y0V,List.pairwise_filterMap];refine Yy11.imp fun {a b} hab x hx y hy=>?_;have ex:x.1=a:=by
     cases q:owner.getD a none with
     | none=>rw[q]at hx;cases hx
     | some z=>rw[q]at hx;cases hx;rfl
    have ey:y.1=b:=by
     cases q:owner.getD b none with
     | none=>rw[q]at hy;cases hy
     | some z=>rw[q]at hy;cases hy;rfl
    rw[ex,ey];exact hab
  ·exact⟨ZV1 _ _,rfl⟩
 ·exact⟨ZV1 _ _,rfl⟩
end L2
namespace L2
open PySem PySem.Spec PyProof.Rows
def SetR(P:Program)(w:World)(h:Heap)(a:Addr)(led:Bool)(S:Int->Bool)(n:Nat):Prop :=
 ∃(o:Obj) (es:Array (Int × Value)) (ep:Nat) (t:SetTable),h.get? a=some o/\o.ExactSet/\o.data=.set es ep t/\ElemsOf (intKind P w) es.toList/\(∀ z,S z=true↔∃ y∈es.toList,(intKind P w).is z y.2=true)/\es.size<scanBound/\t.fits es.size=true/\es.size=n/\Ris t/\t.led=led
theorem SetR.at{P:Program}{w:World}{h h':Heap}{a:Addr}{led:Bool}{S:Int->Bool}{n:Nat}(q:SetR P w h a led S n)(k:∀ o,h.get? a=some o->h'.get? a=some o):SetR P w h' a led S n :=
 let ⟨o,es,ep,t,ho,r⟩:=q
 ⟨o,es,ep,t,k o ho,r⟩
section
variable{prog:Program}{w:World}{A:Around}{E:Value->Shared->Prop}{s:Shared}
theorem Zj3{h:Heap}{a:Addr}{o:Obj}{es:Array (Int × Value)}{ep:Nat}{t:SetTable}(ho:h.get? a=some o)(hx:o.ExactSet)(hd:o.data=.set es ep t)(fs:Array (Int × Value))(u:SetTable) :
  (h.update a (Obj.putSet fs u)).get? a=some { o with data:=.set fs (ep+1) u }/\({ o with data:=.set fs (ep+1) u }:Obj).ExactSet:=by have q:=Y0d (Obj.putSet fs u) ho (by rw[putSet_of fs u hd];rfl);rw[putSet_of fs u hd]at q;exact⟨q,hx⟩
theorem Zo10{gv:Bool->Sem Unit}(hgv:∀(b:Bool) (s1:Shared) (R:Unit->Shared->Prop),R () s1->wpAny (model prog w) A (gv b) R E s1)
  {a:Addr} {o:Obj} {es fs:Array (Int × Value)} {ep:Nat} {t u:SetTable} (ho:s.heap.get? a=some o) (hx:o.ExactSet) (hd:o.data=.set es ep t)
  {S:Int->Bool} (he:ElemsOf (intKind prog w) fs.toList) (hm:∀ z,S z=true↔∃ y∈fs.toList,(intKind prog w).is z y.2=true) (hb:fs.size<scanBound) (hf:u.fits fs.size=true) (hr:Ris u) {dm:Bool} {R:Option Bool->Shared->Prop}
  (k:∀ h',Heap.SameBut a s.heap h'->SetR prog w h' a u.led S fs.size->R (some true) { s with heap:=h' }) :
  wpAny (model prog w) A (do
   storeSet a fs u
   if (!dm && u.tooFull)=true then do
    gv (relayAll u fs (SetTable.grown fs.size)).2.2
    storeSet a (relayAll u fs (SetTable.grown fs.size)).1 (relayAll u fs (SetTable.grown fs.size)).2.1
    pure (some true)
   else pure (some true)) R E s:=by
 obtain⟨h1,x1⟩:=Zj3 ho hx hd fs u;have b1:=Y0C s.heap a (Obj.putSet fs u)
 refine Yy4 (wpAny_storeSet_of ho hd ?_ (fits_of_scanBound hb));by_cases c:(!dm && u.tooFull)=true
 ·rw[if_pos c];have p:=relayAll_perm u fs (SetTable.grown fs.size)
  have f:=relayAll_fits u fs (SetTable.grown fs.size);obtain⟨r,l⟩:=Zk7 hr fs (SetTable.grown fs.size);generalize relayAll u fs (SetTable.grown fs.size)=Z at p f r l ⊢;obtain⟨gs,v,gave⟩:=Z;dsimp only at p f r l ⊢;have ez:gs.size=fs.size:=by rw[<- YN,p.length_eq,YN]
  obtain⟨h2,x2⟩:=Zj3 h1 x1 rfl gs v;refine Yy4 (hgv _ _ _ (Yy4 (wpAny_storeSet_of h1 rfl (Yn ?_) (fits_of_scanBound (by rw[ez];exact hb)))));exact k _ (b1.trans (Y0C _ a _)) ⟨_,gs,_,v,h2,x2,rfl,he.perm p,fun z=>(hm z).trans ⟨fun⟨y,hy,q⟩=>⟨y,p.mem_iff.mpr hy,q⟩,fun⟨y,hy,q⟩=>⟨y,p.mem_iff.mp hy,q⟩⟩,by rw[ez];exact hb,f,ez,r,l⟩
 ·rw[if_neg c];exact Yn (k _ b1 ⟨_,fs,_,u,h1,x1,rfl,he,hm,hb,hf,rfl,hr,rfl⟩)
theorem Ze12{a:Addr}{S:Int->Bool}{n:Nat}{z:Int}{x:Value}{led:Bool}{R:Bool->Shared->Prop}(hz:(intKind prog w).is z x=true)(hsc:x.scannable=true)(hS:SetR prog w s.heap a led S n)(room:n+1<scanBound)
  (k:∀ h',Heap.SameBut a s.heap h'->SetR prog w h' a led (fun y=>S y || decide (y=z)) (if S z then n else n+1)->R (!S z) { s with heap:=h' }) :
  wpAny (model prog w) A (setAddHashed a x ((intKind prog w).hash z)) R E s:=by
 obtain⟨o,es,ep,t,ho,hx,hd,he,hm,hb,hf,hn,hr,hl⟩:=hS;unfold setAddHashed setAddHashedIn;refine Y0G (Yy4 (Y1l ho hd hf ?_));dsimp only;rw[if_pos (byScan_of hsc hb he)];unfold setAddByScan;refine Yy4 (Yy4 (wpAny_rule (Yy4 (wpAny_setScan_of hz ho hd hf he ?_))));cases hw:List.findIdx? (fun y=>(intKind prog w).is z y.2) es.toList with
 | some j =>
  obtain⟨j1,j2,_⟩:=List.findIdx?_eq_some_iff_getElem.mp hw;have yes:S z=true:=(hm z).mpr ⟨es.toList[j],Y0j j1,j2⟩
  have fin:=k s.heap (Heap.SameBut.refl a s.heap) ⟨o,es,ep,t,ho,hx,hd,he,fun y=>by rw[Bool.or_eq_true,Y1U,<- hm y];exact⟨fun q=>q.elim id fun q=>q ▸ yes,.inl⟩,hb,hf,by rw[yes];exact hn,hr,hl⟩
  rw[yes]at fin;dsimp only;exact Yn (Yn fin)
 | none =>
  have no:S z=false:=Y2x.mpr fun q=>by
   obtain⟨y,hy,hp⟩:=(hm z).mp q
   have:=List.findIdx?_eq_none_iff.mp hw y hy
   rw[hp]at this;cases this
  dsimp only;have p:=layNew_perm t es ((intKind prog w).hash z) x
  have f:=layNew_fits t es ((intKind prog w).hash z) x;obtain⟨r,l⟩:=ZU10 hr es ((intKind prog w).hash z) x;generalize layNew t es ((intKind prog w).hash z) x=Z at p f r l ⊢;obtain⟨fs,u,dm,gave⟩:=Z;dsimp only at p f r l ⊢;rw[Y2y]at p;have ez:fs.size=n+1:=by rw[<- YN,p.length_eq,Yy8,YN,hn];rfl
  have gw:∀(b:Bool) {s1:Shared} {R':Unit->Shared->Prop},R' () s1->wpAny (model prog w) A (match b with | true=>rule "set.scan.the-table-gave-way" | false=>pure ()) R' E s1:=fun b s1 R' q=>by
   cases b
   ·exact Yn q
   ·exact wpAny_rule q
  have fin:∀ h',Heap.SameBut a s.heap h'->SetR prog w h' a led (fun y=>S y || decide (y=z)) fs.size->R true { s with heap:=h' }:=fun h' q1 q2=>by have q:=k h' q1;rw[no]at q;rw[ez]at q2;exact q q2
  have he1:=(he.push hz hsc).perm p;have hm1:∀ y,(S y || decide (y=z))=true↔∃ v∈fs.toList,(intKind prog w).is y v.2=true:=mem_push_iff hz hm p
  have hb1:fs.size<scanBound:=by omega
  refine Yy4 (gw _ ?_);have tail:∀ v:SetTable,v.fits fs.size=true->Ris v->v.led=led->wpAny (model prog w) A (do
    storeSet a fs v
    if (!dm && v.tooFull)=true then do
     (match (relayAll v fs (SetTable.grown fs.size)).2.2 with | true=>rule "set.scan.the-table-gave-way" | false=>pure ())
     storeSet a (relayAll v fs (SetTable.grown fs.size)).1 (relayAll v fs (SetTable.grown fs.size)).2.1
     pure (some true)
    else pure (some true)) (fun y s1=>wpAny (model prog w) A (match y with | some added=>pure added | none=>setAddHashedIn a x ((intKind prog w).hash z) 99999) R E s1) E s:=fun v a1 a2 a3 =>
   Zo10 (gv:=fun b=>match b with | true=>rule "set.scan.the-table-gave-way" | false=>pure ()) (fun b s1 R' q=>gw b q) ho hx hd he1 hm1 hb1 a1 a2 fun h' q1 q2=>Yn (fin h' q1 (a3 ▸ q2))
  split
  ·refine Yy4 ?_;rw[hashByValue_scannable 8 hsc];refine Yn ?_;split
   ·exact tail u f r (l.trans hl)
   ·exact tail _ (SetTable.fits_plain_off f) r (l.trans hl)
  ·refine Yy4 (Yn ?_);rw[if_pos rfl];exact tail u f r (l.trans hl)
end
section
variable{prog:Program}{w:World}{A:Around}{R:Result->Shared->Prop}{I:Addr}{fp wr:List Addr}{G:Array GenState->Array GenState->Prop}{n:Nat}{P:Nat->Value->Prop}{St:Nat->Shared->Prop}
theorem Zg6(W:WalksS prog w A.in1 I fp wr G n P St)(b:Addr)(hbf:b∉fp){led:Bool}(val:Nat->Int)(hv:∀ i v,P i v->∃ t,v=.int (val i) t)(hn:n+1<scanBound) :
  ∀(k i:Nat) (s:Shared),n - i=k->i<=n->St i s->SetR prog w s.heap b led (fun z=>(firstMet val i).any (· == z)) (firstMet val i).length ->
   (∀ s',Moved (b :: wr) G s s'->SetR prog w s'.heap b led (fun z=>(firstMet val n).any (· == z)) (firstMet val n).length->R (.ok (.ret .none)) s') ->
   codeAny (model prog w) A (.builtin "set.update.loop" ⟨[.ref b,.ref I],[]⟩) R s
 | 0,i,s,hk,hi,st,hS,q=>by
  have e:i=n:=by omega
  subst e;refine Y0c F.entry_set_update_loop ?_;rw[Y0u Y2B _];show wpAny _ A.in1 (pyNext (.ref I) >>= _) _ _ s
  refine Yy4 (W.done s _ _ st fun s1 m=>?_);show wpAny _ A.in1 (ret Value.none) _ _ s1
  exact Yn (q s1 (m.mono fun c hc=>.tail _ hc) (hS.at fun o ho=>m.heap b o (fun hc=>hbf (W.sub _ hc)) ho))
 | k+1,i,s,hk,hi,st,hS,q=>by
  have hlt:i<n:=by omega
  refine Y0c F.entry_set_update_loop ?_;rw[Y0u Y2B _];show wpAny _ A.in1 (pyNext (.ref I) >>= _) _ _ s
  refine Yy4 (W.item i s _ _ hlt st fun v s1 hP st1 m=>?_);obtain⟨t,rfl⟩:=hv i v hP;have hS1:=hS.at (h':=s1.heap) fun o ho=>m.heap b o (fun hc=>hbf (W.sub _ hc)) ho
  show wpAny _ A.in1 (holding [Value.int (val i) t] (setAdd b (.int (val i) t)) >>= _) _ _ s1;refine Yy4 (Y0G ?_);unfold setAdd;refine Y0G (Yy4 ((intKind prog w).pyHash (k:=val i) (intKind_is _ _ _ _) ?_));have fm:=firstMet_length_le val i
  refine Ze12 (s:={ s1 with toks:=s1.toks+1 }) (intKind_is _ _ _ _) rfl hS1 (by omega) fun h2 sb hS2=>?_;have hS3:SetR prog w h2 b led (fun z=>(firstMet val (i+1)).any (· == z)) (firstMet val (i+1)).length:=by
   have e1:(fun z=>(firstMet val (i+1)).any (· == z))=fun y=>((firstMet val i).any (· == y) || decide (y=val i)):=funext fun y=>by rw[firstMet_succ,step_any]
   rw[e1,firstMet_succ,step_length];exact hS2
  have kept:∀ c o,c≠b->s1.heap.get? c=some o->h2.get? c=some o:=fun c o hc e=>(sb.2 c hc).trans e;refine Yn ⟨Yy15 Y2B _,Zg6 W b hbf val hv hn k (i+1) _ (by omega) hlt (W.frame _ s1 _ _ st1 (Y0P _) fun c hc o e=>kept c o (fun e'=>hbf (e' ▸ hc)) e) hS3 fun s2 m2 hS4=>?_⟩;exact q s2 (Moved.trans W.gtrans ((m.mono fun c hc=>.tail _ hc).then_heap (Y0P _) fun c o hc e=>kept c o (fun e'=>hc (e' ▸ .head _)) e) m2) hS4
end
section
variable{prog:Program}{w:World}{A:Around}{E:Value->Shared->Prop}{s:Shared}
def Zw3 (w:World):Obj:={ cls:=.type "set",dict:=none,data:=.set #[] 0 (.fresh 0 0 (!w.params.followText "set-order")) }
theorem Zk11(a:Value){Q:Value->Shared->Prop}(k:Q (.ref s.heap.objs.size) { s with heap:=s.heap.push (Zw3 w) }) :
  codeAny (model prog w) A (.call (.builtin "set.__new__") ⟨[.type "set",a],[]⟩) (wants Q E) s:=by
 refine codeAny_of_tree ?_;show wpAny _ A.in1 (checkBuiltinCall "set.__new__" ⟨[.type "set",a],[]⟩ >>= fun _=>again (.builtin "set.__new__" ⟨[.type "set",a],[]⟩)) _ _ s
 refine Yy4 (Y1w (F.newCall_set_1 a) (Yn ⟨Yy15 F.plain_set_new _,Y0c F.entry_set_new ?_⟩));rw[Y0u F.plain_set_new _];have hsub:=sub_set_self
 unfold Builtin.«set.__new__» Builtin.Frozenset.newClass;obtain⟨hp,g,d,tk,os⟩:=s;dsimp only
 wp_walk
 refine Y1p (Yn ?_);simp only [newObj];refine Yy4 (wpAny_alloc (Yn (Yn k)))
theorem Zl7 {h:Heap} {a:Addr} (e:h.get? a=some (Zw3 w)):SetR prog w h a (!w.params.followText "set-order") (fun z=>(firstMet (fun _=>0) 0).any (· == z)) 0:=by refine⟨_,#[],0,_,e,⟨rfl,rfl,rfl⟩,rfl,fun y hy=>(by cases hy),fun z=>⟨fun q=>(by cases q),fun⟨y,hy,_⟩=>(by cases hy)⟩,by decide,by simp[SetTable.fits,SetTable.fresh,SetTable.fill],rfl,.nil,rfl⟩
theorem Zc9{l:Addr}{items:Array Value}{ns:List Int}{h0:Heap}{b:Addr}{Q:Value->Shared->Prop}(hh:A.handled=none)(hb0:h0.get? b=some (Zw3 w))(hl:h0.IsList l items)(hne:l≠b)(hi:IntsAre items.toList ns)(hn:items.size+1<scanBound)
  (k:∀ h' tk,SetR prog w h' b (!w.params.followText "set-order") (fun z=>(firstMet (fun i=>ns.getD i 0) items.size).any (· == z)) (firstMet (fun i=>ns.getD i 0) items.size).length->(∀ c o,c≠b->h0.get? c=some o->h'.get? c=some o)->Q .none { s with heap:=h',toks:=tk }) :
  wpAny (model prog w) A.in1 (Builtin.«set.__init__» ⟨[.ref b,.ref l],[]⟩) (fun fin s'=>match fin with | .done f=>wants Q E (.ok f) s' | .again c'=>c'.quiet=true/\codeAny (model prog w) A c' (wants Q E) s') (fun e s'=>wants Q E (.error e) s') { s with heap:=h0 }:=by
 have hT:Shared.TypeIs { s with heap:=h0 } (.ref b) "set":=⟨_,hb0,rfl⟩;have hl0:=hl
 obtain⟨⟨ocls,odict,odata,oslots⟩,hol,hcl,nl,hdl⟩:=hl;simp only at hcl hdl;subst hcl hdl;have q1:=F.sub_list_set
 have q2:=F.sub_list_frozenset;have q3:(Value.type "list" == Value.type "dict")=false:=by decide
 unfold Zw3 at hb0;unfold Builtin.«set.__init__» noKeywords Builtin.Frozenset.updateFrom;generalize hPI:pyIter=PI
 wp_walk
 subst hPI;refine Yy28 hl0 ?_;refine Yy4 (Y2D ?_);have ltl:l<h0.objs.size:=Yp hol
 have ltb:b<h0.objs.size:=Yp hb0;have bf:b∉[h0.objs.size,l]:=fun q=>by
  rcases Yh.mp q with e | e
  ·exact Yu ltb e
  ·exact hne (Yy1.mp e).symm
 refine Zg6 ((Walks.list (A:=A.in1.in1) (by simp [hh]) _ l (Yu ltl) items).toS) b bf (led:=!w.params.followText "set-order") (fun i=>ns.getD i 0) (fun i v hv=>IntsAre.int_at hi i v (by rw [YV];exact hv)) hn (items.size - 0) 0 _ (by omega) (Yj _)
  ⟨⟨_,Yo _ rfl,rfl,rfl⟩,hl0.push _⟩ ?_ ?_
 ·exact Zl7 (Yy5 _ hb0)
 ·rintro⟨h',g',d',tk',os'⟩ m hS;have e1:g'=s.gens:=m.gens
  have e2:d'=s.drawn:=m.drawn;have e3:os'=s.os:=m.os
  subst e1 e2 e3;show wpAny _ _ _ _ _ _
  refine Yn ?_;show wpAny _ _ (ret Value.none) _ _ _
  refine Yn (k h' tk' hS fun c o hc e=>m.heap c o (fun q=>?_) (Yy5 _ e));rcases Yh.mp q with e' | e'
  ·exact hc e'
  ·exact Yu (Yp e) (Yy1.mp e')
set_option maxRecDepth 100000 in
set_option maxHeartbeats 3000000 in
theorem ZK10{l:Addr}{items:Array Value}{ns:List Int}{Q:Value->Shared->Prop}(hh:A.handled=none)(hl:s.heap.IsList l items)(hi:IntsAre items.toList ns)(hn:items.size+1<scanBound)
  (k:∀ h' tk,SetR prog w h' s.heap.objs.size (!w.params.followText "set-order") (fun z=>(firstMet (fun i=>ns.getD i 0) items.size).any (· == z)) (firstMet (fun i=>ns.getD i 0) items.size).length->(∀ c o,s.heap.get? c=some o->h'.get? c=some o)->Q (.ref s.heap.objs.size) { s with heap:=h',toks:=tk }) :
  wpAny (model prog w) A (call (.type "set") [.ref l]) Q E s:=by
 obtain⟨c,tl,hmro⟩:=Y1y.mro;have a1:=Y1y.made
 have a2:=Y1y.sub;have a3:=Y1y.notType
 have a4:=Y1y.canCreate;have a5:=F.typeCall_set_1 (.ref l)
 refine wpAny_call (codeAny_of_tree ?_);show wpAny _ _ (callAny (.type "set") _) _ _ _
 refine Yn ⟨Yy26 _ (by decide +kernel),Y0c F.entry_type_call ?_⟩;rw [Around.under_plain (weight_type_call_type "set" [.ref l] []) rfl]
 repeat any_goals first | assumption | wp_step
 refine Y1x (Zk11 (.ref l) (E:=E) (Q:=fun ob s1=>ob=.ref s.heap.objs.size/\s1={ s with heap:=s.heap.push (Zw3 w) }) ⟨rfl,rfl⟩) fun r s1 hr=>?_
 match r,hr with
 | .error e,hr=>exact hr
 | .ok (.ret ob),hr =>
  obtain⟨rfl,rfl⟩:=hr;have hb0:(s.heap.push (Zw3 w)).get? s.heap.objs.size=some (Zw3 w):=Yo _ rfl
  have hT:Shared.TypeIs { s with heap:=s.heap.push (Zw3 w) } (.ref s.heap.objs.size) "set":=⟨_,hb0,rfl⟩;have a6:=Y1y.init.lookup
  have a7:=Y1y.init.bind (.ref s.heap.objs.size)
  repeat any_goals first | assumption | wp_step
  have ltl:l<s.heap.objs.size:=let ⟨_,e,_⟩:=hl;Yp e
  refine Y1x (codeAny_call_builtin (R:=wants (fun r s2=>r=.none/\Q (.ref s.heap.objs.size) s2) E) Y1y.init.plain F.entry_set_init (check_set_init_1 hT (Zc9 (A:=_) (s:=s) ?_ hb0 (hl.push _) (Yu ltl) hi hn fun h' tk hS kp=>⟨rfl,k h' tk hS fun c o e=>kp c o (Yu (Yp e)) (Yy5 _ e)⟩))) fun r2 s2 hr2=>?_
  ·simp[hh]
  ·match r2,hr2 with
   | .error e,hr2=>exact hr2
   | .ok (.ret v),hr2 =>
    obtain⟨rfl,q⟩:=hr2
    repeat any_goals first | assumption | wp_step
end
theorem ZJ5:Manifest.owners.lookup (String.ofList ['r','o','t','a','r','e','t','i','_','t','e','s'].reverse)=some Manifest.sig_set_iterator:=by kernel_rfl
theorem si_next:PySem.Slot "set_iterator" "__next__" "set_iterator.__next__" :=
 .of (owner:="set_iterator") (n:="__next__") (by rw [Y2q,Y1E];kernel_rfl) (by decide +kernel) (by decide +kernel) (by decide +kernel)
  (by first | exact .inl (by decide +kernel) | exact .inr (by decide +kernel)) (by rw[isSubtype_type];kernel_rfl)
theorem ZG2:entryFor table "set_iterator.__next__"=some Builtin.«set_iterator.__next__»:=entryFor_of_tree (by kernel_rfl)
theorem ZH2 (a:Value):argsOk "set_iterator.__next__" ⟨[a],[]⟩:=by unfold argsOk;rw [signature?_of (id:="set_iterator.__next__") (n:=['_','_','t','x','e','n','_','_']) (o:=['r','o','t','a','r','e','t','i','_','t','e','s']) (by kernel_rfl) ZJ5];kernel_rfl
theorem Za8:PySem.Slot "set_iterator" "__iter__" "set_iterator.__iter__" :=
 .of (owner:="set_iterator") (n:="__iter__") (by rw [Y2q,Y1E];kernel_rfl) (by decide +kernel) (by decide +kernel) (by decide +kernel)
  (by first | exact .inl (by decide +kernel) | exact .inr (by decide +kernel)) (by rw[isSubtype_type];kernel_rfl)
theorem Zz29 (a:Value):argsOk "set_iterator.__iter__" ⟨[a],[]⟩:=by unfold argsOk;rw [signature?_of (id:="set_iterator.__iter__") (n:=['_','_','r','e','t','i','_','_']) (o:=['r','o','t','a','r','e','t','i','_','t','e','s']) (by kernel_rfl) ZJ5];kernel_rfl
theorem Zz19:entryFor table "set_iterator.__iter__"=some Builtin.«dict_keyiterator.__iter__» :=
 entryFor_alias (id':="dict_keyiterator.__iter__") (by kernel_rfl) (by first | rfl | decide +kernel | (unfold String.splitOn;simp +decide [String.splitOnAux])) (by decide +kernel) (by kernel_rfl)
theorem ZW8:Manifest.owners.lookup (String.ofList ['t','e','s'].reverse)=some Manifest.sig_set:=by kernel_rfl
theorem Zz78:PySem.Slot "set" "__iter__" "set.__iter__" :=
 .of (owner:="set") (n:="__iter__") (by rw [Y2q,Y1E];kernel_rfl) (by decide +kernel) (by decide +kernel) (by decide +kernel)
  (by first | exact .inl (by decide +kernel) | exact .inr (by decide +kernel)) (by rw[isSubtype_type];kernel_rfl)
theorem ZY8 (a:Value):argsOk "set.__iter__" ⟨[a],[]⟩:=by unfold argsOk;rw [signature?_of (id:="set.__iter__") (n:=['_','_','r','e','t','i','_','_']) (o:=['t','e','s']) (by kernel_rfl) ZW8];kernel_rfl
theorem ZX8:entryFor table "set.__iter__"=some Builtin.«frozenset.__iter__» :=
 entryFor_alias (id':="frozenset.__iter__") (by kernel_rfl) (by first | rfl | decide +kernel | (unfold String.splitOn;simp +decide [String.splitOnAux])) (by decide +kernel) (by kernel_rfl)
def IsSi (h:Heap) (I a:Addr) (f:Value) (i n ep:Nat):Prop:=∃ o,h.get? I=some o/\o.cls=.type "set_iterator"/\o.data=.fields #[f,rawInt (i:Int),.ref a,rawInt (n:Int),rawInt (ep:Int)]
theorem IsSi.ty {s:Shared} {I a:Addr} {f:Value} {i n ep:Nat} (x:IsSi s.heap I a f i n ep):s.TypeIs (.ref I) "set_iterator":=let ⟨o,p,q,_⟩:=x;⟨o,p,q⟩
theorem IsSi.keep{h h':Heap}{I a:Addr}{f:Value}{i n ep:Nat}(x:IsSi h I a f i n ep)(e:∀ o,h.get? I=some o->h'.get? I=some o):IsSi h' I a f i n ep:=let ⟨o,p,q⟩:=x;⟨o,e _ p,q⟩
def SetIs(h:Heap)(a:Addr)(es:Array (Int × Value))(ep:Nat)(t:SetTable):Prop:=∃ o,h.get? a=some o/\o.ExactSet/\o.data=.set es ep t
theorem SetIs.keep{h h':Heap}{a:Addr}{es:Array (Int × Value)}{ep:Nat}{t:SetTable}(x:SetIs h a es ep t)(e:∀ o,h.get? a=some o->h'.get? a=some o):SetIs h' a es ep t:=let ⟨o,p,q⟩:=x;⟨o,e _ p,q⟩
section
variable{prog:Program}{w:World}{A:Around}{E:Value->Shared->Prop}{s:Shared}
theorem Zz07{M:Model}{src:Source}{n:Nat}{Q:Nat->Shared->Prop}(hn:n≠0)(k:∀ i,i<n->∀ d,Q i { s with drawn:=d }):wpAny M A (choose src n) Q E s :=
 fun Γ p _=>⟨hn,k _ (Nat.mod_lt _ (Nat.pos_of_ne_zero hn)) _⟩
theorem Zk2{α:Type}:∀ {l:List α} {i:Nat} {y:α},l[i]?=some y->(y :: l.eraseIdx i).Perm l
 | [],_,_,h=>by simp at h
 | x :: l,0,y,h=>by obtain rfl:x=y:=Yc h;exact .rfl
 | x :: l,i+1,y,h=>(List.Perm.swap x y (l.eraseIdx i)).trans ((Zk2 (l:=l) (i:=i) h).cons x)
theorem ZG6{M:Model}{α:Type}:∀(n:Nat) (xs:List α) (s:Shared) (Q:List α->Shared->Prop),n=xs.length->(∀ ys d,ys.Perm xs->Q ys { s with drawn:=d })->wpAny M A (drawOrder n xs) Q E s
 | 0,xs,s,Q,h,k=>by have e:xs=[]:=YK.mp h.symm;subst e;exact Yn (k [] s.drawn .rfl)
 | n+1,[],s,Q,h,k=>by cases h
 | n+1,x :: xs,s,Q,h,k=>by show wpAny M A (choose .order (x :: xs).length >>= _) Q E s;refine Yy4 (Zz07 (by simp) fun i hi d=>?_);obtain⟨y,hy⟩:∃ y,(x :: xs)[i]?=some y:=⟨_,Yy0 hi⟩;rw[hy];dsimp only;refine Yy4 (ZG6 n ((x :: xs).eraseIdx i) _ _ (by rw[Y2R hi];omega) fun ys d' hp=>Yn (k (y :: ys) d' ?_));exact(hp.cons y).trans (Zk2 hy)
theorem Zj4{α:Type}{f:Nat->Nat}:∀(n k:Nat) (l:List α) (out:Array α),n=l.length->(pickOrder.go f n k l out).toList.Perm (out.toList++l)
 | 0,k,l,out,h=>by rw[YK.mp h.symm,YS];exact .rfl
 | n+1,k,l,out,h=>by have hi:f k % l.length<l.length:=Nat.mod_lt _ (by omega);obtain⟨y,hy⟩:∃ y,l[f k % l.length]?=some y:=⟨_,Yy0 hi⟩;unfold pickOrder.go;rw[hy];dsimp only;refine(Zj4 n (k+1) _ _ (by rw[Y2R hi];omega)).trans ?_;rw[Y2y,Y0f];refine List.Perm.append_left _ ?_;exact Zk2 hy
theorem Zz98{I a:Addr}{f:Value}{i n ep:Nat}{Q:Value->Shared->Prop}(hr:IsSi s.heap I a f i n ep)(h:Q (.ref I) s):wpAny (model prog w) A (pyIter (.ref I)) Q E s:=by
 refine wpAny_pyIter_slot hr.ty Za8 (Yy14 Za8 hr.ty Zz19 ?_ (Zz29 _));show wpAny _ _ (ret (.ref I)) _ _ s
 exact Yn ⟨_,rfl,"set_iterator",_,hr.ty,si_next.lookup,h⟩
def Zq5(prog:Program)(w:World)(a:Addr)(es:Array (Int × Value))(ep:Nat)(t:SetTable)(ord:List Value)(sl:Nat->Nat):Prop :=
 ∀(A:Around) (E:Value->Shared->Prop) (s:Shared) (i:Nat) (Q:Option (Value × Nat)->Shared->Prop),SetIs s.heap a es ep t->i<=ord.length->Q ((ord[i]?).map fun x=>(x,sl (i+1))) s->wpAny (model prog w) A (setNext a (sl i) i ep) Q E s
theorem ZJ10{I a:Addr}{es:Array (Int × Value)}{ep:Nat}{t:SetTable}{ord:List Value}{sl:Nat->Nat}{i:Nat}{x:Value}{Q:Option Value->Shared->Prop}(hN:Zq5 prog w a es ep t ord sl)(hS:SetIs s.heap a es ep t)(hf:t.fits es.size=true)(hi:IsSi s.heap I a (rawInt (sl i:Nat)) i es.size ep)(hx:ord[i]?=some x)
  (k:∀ h',IsSi h' I a (rawInt (sl (i+1):Nat)) (i+1) es.size ep->Heap.SameBut I s.heap h'->Q (some x) { s with heap:=h' }):wpAny (model prog w) A (pyNext (.ref I)) Q E s:=by
 obtain⟨o,ho,hc,hd⟩:=id hi;obtain⟨oa,hoa,hxa,hda⟩:=id hS;unfold pyNext;refine Yy4 (Y2g (Y1v (name:=Str.ofString "__next__") hi.ty si_next (Yy14 si_next hi.ty ZG2 ?_ (ZH2 _))));unfold Builtin.«set_iterator.__next__»;refine Yy4 (Y1w (a:=(Value.ref I,[])) rfl ?_);dsimp only;refine Yy4 (Y2E ho hd ?_);dsimp only [rawInt];refine Yy4 (Y1o hoa hda hf ?_);rw[if_neg (by simp)];rw[Yw,Yw,Yw];refine Yy4 (hN _ _ s i _ hS (Y1A (Yy2.mp hx).1) ?_);rw[hx];dsimp only [Option.map_some];refine Yy4 (Y1I ho hd (by simp) ?_);have ho2:=Y0d (Obj.mapFields (fun vs=>vs.setIfInBounds 0 (rawInt (sl (i+1):Nat)))) ho (Y1F (Y0i hd _))
 refine Yy4 (Y1I ho2 (Y0i hd _) (by simp) ?_);refine Yn ⟨x,rfl,Yn (k _ ⟨_,Y0d _ ho2 (Y1F (Y0i (Y0i hd _) _)),?_,?_⟩ ((Y0C ..).trans (Y0C ..)))⟩
 ·rw[Yy30,Yy30];exact hc
 ·rw[Y0i (Y0i hd _)];simp;rfl
theorem Zy12{I a:Addr}{es:Array (Int × Value)}{ep:Nat}{t:SetTable}{ord:List Value}{sl:Nat->Nat}{Q:Option Value->Shared->Prop}(hh:A.handled=none)(hN:Zq5 prog w a es ep t ord sl)(hS:SetIs s.heap a es ep t)(hf:t.fits es.size=true)(hi:IsSi s.heap I a (rawInt (sl ord.length:Nat)) ord.length es.size ep)
  (k:∀ h',Heap.ExtBut I s.heap h'->Q none { s with heap:=h' }):wpAny (model prog w) A (pyNext (.ref I)) Q E s:=by
 obtain⟨o,ho,hc,hd⟩:=id hi;obtain⟨oa,hoa,hxa,hda⟩:=id hS;unfold pyNext;refine Yy4 (Y2g (Y1v (name:=Str.ofString "__next__") hi.ty si_next (Yy14 si_next hi.ty ZG2 ?_ (ZH2 _))));unfold Builtin.«set_iterator.__next__»;refine Yy4 (Y1w (a:=(Value.ref I,[])) rfl ?_);dsimp only;refine Yy4 (Y2E ho hd ?_);dsimp only [rawInt];refine Yy4 (Y1o hoa hda hf ?_);rw[if_neg (by simp)];rw[Yw,Yw,Yw];refine Yy4 (hN _ _ s ord.length _ hS (Yy7 _) ?_);rw[QP (Yy7 _)];dsimp only [Option.map_none];refine Yy4 (Y1I ho hd (by simp) ?_);show wpAny _ _ (newExc (.type "StopIteration") [] >>= _) _ _ _
 refine Yy4 ?_;simp only [newExc,newTuple];refine Yy4 (Y0D ?_ (by size_fits));refine Yy4 (m:=firstArgMember _ _) (Y1w (a:=Value.none) (by first | rfl | (simp only [firstArgMember];rfl)) ?_)
 refine Y0D ?_ (by size_fits);simp only [raiseNew];refine Yy4 (wpAny_handled ?_);rw[show A.in1.handled=none from hh];refine Yy4 (Yn (wpAny_throw ?_));refine Yy4 (Yy38 (T:="StopIteration") (b:=true) ⟨_,Yo _ rfl,rfl⟩ isSubtype_stop ?_);exact Yn (k _ ((((Y0C ..).extBut).push _).push _))
theorem Zz09{I a:Addr}{es:Array (Int × Value)}{ep:Nat}{t:SetTable}{ord:List Value}{sl:Nat->Nat}(hh:A.handled=none)(hN:Zq5 prog w a es ep t ord sl)(hf:t.fits es.size=true)(hne:a≠I) :
  Walks prog w A I [I,a] [I] ord.length (fun i v=>ord[i]?=some v) (fun i h=>i<=ord.length/\IsSi h I a (rawInt (sl i:Nat)) i es.size ep/\SetIs h a es ep t) where
 sub:=fun b hb=>Yh.mpr (.inl (Yy1.mp hb))
 frame:=fun _ _ _ x hk=>⟨x.1,x.2.1.keep fun o e=>hk I (by simp) o e,x.2.2.keep fun o e=>hk a (by simp) o e⟩
 item:=fun i s Q E hi ⟨_,x1,x2⟩ hQ=>by have hx:ord[i]?=some (ord[i]'hi):=Yy0 hi;exact ZJ10 hN x2 hf x1 hx fun h' y hs=>hQ _ h' s.toks hx ⟨hi,y,x2.keep fun o e=>(hs.2 a hne).trans e⟩ fun b o hb eo=>hs.extBut b o (fun e=>hb (by simp[e])) eo
 done:=fun s Q E ⟨_,x1,x2⟩ hQ=>Zy12 hh hN x2 hf x1 fun h' he=>hQ h' s.toks fun b o hb eo=>he b o (fun e=>hb (by simp[e])) eo
 self:=fun _ _ _ _ x hQ=>Zz98 x.2.1 hQ
theorem Zu9 {a:Addr} {es:Array (Int × Value)} {ep:Nat} {t:SetTable} (hf:t.fits es.size=true) (hr:Ris t) (hb:w.params.followText "set-order"=false) (hl:t.led=true) (hd:(!t.plain && decide (es.size > 1))=false) :
  Zq5 prog w a es ep t (es.toList.map (·.2)) (fun i=>if i=0 then 0 else (t.place.getD (i - 1) 0)+1):=by
 intro A E s i Q ⟨o,ho,hx,hda⟩ hi q;have hps:t.place.size=es.size:=by unfold SetTable.fits at hf;simp only [Y0t,Yy16]at hf;exact hf.1
 rw[Yb,YN]at hi;unfold setNext;refine Yy4 (Y1l ho hda hf ?_);dsimp only;refine Yy4 ?_;unfold setsByText;refine Yy4 (Y1p (Yn ?_));show wpAny _ _ (if (w.params.followText "set-order")=true then _ else _) _ _ _
 rw[if_neg (by rw[hb];decide)];show wpAny _ _ (if (!t.plain && decide (es.size > 1))=true then _ else _) _ _ _
 rw[if_neg (by rw[hd];decide)];refine Yy4 ?_;show wpAny _ _ (if (!t.led && !es.isEmpty)=true then _ else _) _ _ _
 rw[if_neg (by rw[hl];simp)];refine Yn ?_;have eb:SetTable.below t.place (if i=0 then 0 else (t.place.getD (i - 1) 0)+1)=i:=by
  by_cases c:i=0
  ·rw[if_pos c,c];exact Zz57 hr
  ·rw[if_neg c];obtain⟨v,hv⟩:∃ v,t.place[i - 1]?=some v:=⟨_,YH (by omega)⟩;have e:t.place.getD (i - 1) 0=v:=by rw[Yv,hv];rfl
   rw[e,Zz67 hr hv];omega
 rw[eb];refine Yn ?_;by_cases c:i<es.size
 ·obtain⟨v,hv⟩:∃ v,t.place[i]?=some v:=⟨_,YH (by omega)⟩;obtain⟨y,hy⟩:∃ y,es[i]?=some y:=⟨_,YH c⟩;have e:t.place.getD i 0=v:=by rw[Yv,hv];rfl
  rw[Ym,YV,hy]at q;rw[hv,hy];simp only [Y2O,Y2k,e,if_neg (Nat.succ_ne_zero i)]at q;exact q
 ·have e1:es[i]?=none:=Y1q (by omega);rw[Ym,YV,e1]at q;rw[e1];exact q
theorem Zu7 {a:Addr} {es:Array (Int × Value)} {ep:Nat} {t:SetTable} (hf:t.fits es.size=true) (hb:w.params.followText "set-order"=true) :
  Zq5 prog w a es ep t ((pickOrder (w.params.setOrder a ep) es).toList.map (·.2)) (fun _=>0):=by
 intro A E s i Q ⟨o,ho,hx,hda⟩ hi q;unfold setNext;refine Yy4 (Y1l ho hda hf ?_);dsimp only;refine Yy4 ?_;unfold setsByText;refine Yy4 (Y1p (Yn ?_));show wpAny _ _ (if (w.params.followText "set-order")=true then _ else _) _ _ _
 rw[if_pos hb,if_neg (by simp)];refine Yy4 ?_;unfold setWalk;refine Yy4 (Y1l ho hda hf ?_);dsimp only;refine Yy4 ?_;unfold setsByText;refine Yy4 (Y1p (Yn ?_));show wpAny _ _ (if (w.params.followText "set-order")=true then _ else _) _ _ _
 rw[if_pos hb];refine Yy4 (Y1p (Yn ?_));rw[Ym,YV,Option.map_map]at q;exact Yn q
def IsPl(h:Heap)(b:Addr)(pl:List Nat):Prop:=∃ o n,h.get? b=some o/\o.data=.seq (pl.map fun(i:Nat)=>rawInt (i:Int)).toArray n
theorem IsPl.keep{h h':Heap}{b:Addr}{pl:List Nat}(x:IsPl h b pl)(e:∀ o,h.get? b=some o->h'.get? b=some o):IsPl h' b pl:=let ⟨o,n,p,q⟩:=x;⟨o,n,e _ p,q⟩
theorem ZM10{I a b:Addr}{es:Array (Int × Value)}{ep:Nat}{t:SetTable}{pl:List Nat}{i j:Nat}{x:Int × Value}{Q:Option Value->Shared->Prop}(hS:SetIs s.heap a es ep t)(hf:t.fits es.size=true)(hi:IsSi s.heap I a (.ref b) i es.size ep)(hb:IsPl s.heap b pl)(hj:pl[i]?=some j)(hx:es[j]?=some x)
  (k:∀ h',IsSi h' I a (.ref b) (i+1) es.size ep->Heap.SameBut I s.heap h'->Q (some x.2) { s with heap:=h' }):wpAny (model prog w) A (pyNext (.ref I)) Q E s:=by
 obtain⟨o,ho,hc,hd⟩:=id hi;obtain⟨oa,hoa,hxa,hda⟩:=id hS;obtain⟨ob,nb,hob,hdb⟩:=hb;unfold pyNext;refine Yy4 (Y2g (Y1v (name:=Str.ofString "__next__") hi.ty si_next (Yy14 si_next hi.ty ZG2 ?_ (ZH2 _))));unfold Builtin.«set_iterator.__next__»;refine Yy4 (Y1w (a:=(Value.ref I,[])) rfl ?_);dsimp only;refine Yy4 (Y2E ho hd ?_);dsimp only [rawInt];refine Yy4 (Y1o hoa hda hf ?_);rw[if_neg (by simp)];refine Yy4 (Yy27 hob hdb ?_);dsimp only;have e:(pl.map fun(i:Nat)=>rawInt (i:Int)).toArray[(i:Int).toNat]?=some (.int (j:Int) 0):=by rw[Yw,Y3f,Ym,hj];rfl
 rw[e];dsimp only;rw[Yw,Yw];refine Yy4 ?_;unfold setNextDrawn;refine Yy4 (Y1l hoa hda hf ?_);dsimp only;rw[if_neg (by simp),hx];refine Yn ?_;refine Yy4 (Y1I ho hd (by simp) ?_);refine Yn ⟨x.2,rfl,Yn (k _ ⟨_,Y0d _ ho (Y1F (Y0i hd _)),?_,?_⟩ (Y0C ..))⟩
 ·rw[Yy30];exact hc
 ·rw[Y0i hd];simp;rfl
theorem ZB12{I a b:Addr}{es:Array (Int × Value)}{ep:Nat}{t:SetTable}{pl:List Nat}{Q:Option Value->Shared->Prop}(hh:A.handled=none)(hS:SetIs s.heap a es ep t)(hf:t.fits es.size=true)(hi:IsSi s.heap I a (.ref b) pl.length es.size ep)(hb:IsPl s.heap b pl)
  (k:∀ h',Heap.ExtBut I s.heap h'->Q none { s with heap:=h' }):wpAny (model prog w) A (pyNext (.ref I)) Q E s:=by
 obtain⟨o,ho,hc,hd⟩:=id hi;obtain⟨oa,hoa,hxa,hda⟩:=id hS;obtain⟨ob,nb,hob,hdb⟩:=hb;unfold pyNext;refine Yy4 (Y2g (Y1v (name:=Str.ofString "__next__") hi.ty si_next (Yy14 si_next hi.ty ZG2 ?_ (ZH2 _))));unfold Builtin.«set_iterator.__next__»;refine Yy4 (Y1w (a:=(Value.ref I,[])) rfl ?_);dsimp only;refine Yy4 (Y2E ho hd ?_);dsimp only [rawInt];refine Yy4 (Y1o hoa hda hf ?_);rw[if_neg (by simp)];refine Yy4 (Yy27 hob hdb ?_);dsimp only;have e:(pl.map fun(i:Nat)=>rawInt (i:Int)).toArray[(pl.length:Int).toNat]?=none:=by rw[Yw,Y3f];exact QP (by simp)
 rw[e];dsimp only;refine Yy4 (Y1I ho hd (by simp) ?_);have ho2:=Y0d (Obj.mapFields (fun vs=>vs.setIfInBounds 0 (rawInt 0))) ho (Y1F (Y0i hd _))
 refine Yy4 (Y1I ho2 (Y0i hd _) (by simp) ?_);show wpAny _ _ (newExc (.type "StopIteration") [] >>= _) _ _ _
 refine Yy4 ?_;simp only [newExc,newTuple];refine Yy4 (Y0D ?_ (by size_fits));refine Yy4 (m:=firstArgMember _ _) (Y1w (a:=Value.none) (by first | rfl | (simp only [firstArgMember];rfl)) ?_)
 refine Y0D ?_ (by size_fits);simp only [raiseNew];refine Yy4 (wpAny_handled ?_);rw[show A.in1.handled=none from hh];refine Yy4 (Yn (wpAny_throw ?_));refine Yy4 (Yy38 (T:="StopIteration") (b:=true) ⟨_,Yo _ rfl,rfl⟩ isSubtype_stop ?_);exact Yn (k _ (((((Y0C ..).trans (Y0C ..)).extBut).push _).push _))
theorem Zz59{I a b:Addr}{es:Array (Int × Value)}{ep:Nat}{t:SetTable}{pl:List Nat}(hh:A.handled=none)(hp:pl.Perm (List.range es.size))(hf:t.fits es.size=true)(hne:a≠I)(hnb:b≠I) :
  Walks prog w A I [I,a,b] [I] pl.length (fun i v=>(pl.filterMap fun j=>(es[j]?).map (·.2))[i]?=some v) (fun i h=>i<=pl.length/\IsSi h I a (.ref b) i es.size ep/\SetIs h a es ep t/\IsPl h b pl) where
 sub:=fun c hc=>Yh.mpr (.inl (Yy1.mp hc))
 frame:=fun _ _ _ x hk=>⟨x.1,x.2.1.keep fun o e=>hk I (by simp) o e,x.2.2.1.keep fun o e=>hk a (by simp) o e,x.2.2.2.keep fun o e=>hk b (by simp) o e⟩
 item:=fun i s Q E hi ⟨_,x1,x2,x3⟩ hQ=>by
  have hj:pl[i]?=some (pl[i]'hi):=Yy0 hi;have hlt:=YD.mp (hp.mem_iff.mp (Yy6 hj))
  have hx:es[pl[i]'hi]?=some (es[pl[i]'hi]'hlt):=YH hlt;have fm:∀(l:List Nat),(∀ j∈l,j<es.size)->l.filterMap (fun j=>(es[j]?).map (·.2))=l.map fun j=>(es.getD j (0,.none)).2:=fun l hl=>by
   induction l with
   | nil=>rfl
   | cons y l ih =>
    have hy:=hl y Ye;rw[Y1H,YI,ih fun j h=>hl j (Yg _ h),YH hy,Yv,YH hy];rfl
  have hv:(pl.filterMap fun j=>(es[j]?).map (·.2))[i]?=some (es[pl[i]'hi]'hlt).2:=by rw[fm pl fun j hj=>YD.mp (hp.mem_iff.mp hj),Ym,hj,Y2O,Yv,hx];rfl
  exact ZM10 x2 hf x1 x3 hj hx fun h' y hs=>hQ _ h' s.toks hv ⟨hi,y,x2.keep fun o e=>(hs.2 a hne).trans e,x3.keep fun o e=>(hs.2 b hnb).trans e⟩ fun c o hc eo=>hs.extBut c o (fun e=>hc (by simp[e])) eo
 done:=fun s Q E ⟨_,x1,x2,x3⟩ hQ=>ZB12 hh x2 hf x1 x3 fun h' he=>hQ h' s.toks fun c o hc eo=>he c o (fun e=>hc (by simp[e])) eo
 self:=fun _ _ _ _ x hQ=>Zz98 x.2.1 hQ
end
section
variable{prog:Program}{w:World}{A B:Around}{E:Value->Shared->Prop}{s:Shared}
theorem SetIs.ty {a:Addr} {es:Array (Int × Value)} {ep:Nat} {t:SetTable} (x:SetIs s.heap a es ep t):s.TypeIs (.ref a) "set":=let ⟨o,p,q,_⟩:=x;⟨o,p,q.1⟩
theorem Zz49 {a:Addr} {es:Array (Int × Value)} {ep:Nat} {t:SetTable} {Q:Value->Shared->Prop} (hh:A.handled=none) (hS:SetIs s.heap a es ep t) (hf:t.fits es.size=true) (hr:Ris t) (hl:t.led=!w.params.followText "set-order") (hz:es.size<=sizeLine)
  (k:∀(I:Addr) (h':Heap) d (ord:List Value) (fp:List Addr) (St:Nat->Heap->Prop),ord.Perm (es.toList.map (·.2))->Walks prog w A I fp [I] ord.length (fun i v=>ord[i]?=some v) St->St 0 h'->(∀ b∈fp,b<h'.objs.size/\(b=a\/s.heap.objs.size<=b))->I∈fp->s.heap.objs.size<=I->(∀ c o,s.heap.get? c=some o->h'.get? c=some o)->Q (.ref I) { s with heap:=h',drawn:=d }) :
  wpAny (model prog w) B (pyIter (.ref a)) Q E s:=by
 obtain⟨o,ho,hx,hd⟩:=id hS;have lta:a<s.heap.objs.size:=Yp ho
 refine wpAny_pyIter_slot hS.ty Zz78 (Yy14 Zz78 hS.ty ZX8 ?_ (ZY8 _));unfold Builtin.«frozenset.__iter__»;refine Yy4 (Y1w (a:=a) rfl ?_);refine Yy4 ?_;unfold Builtin.Frozenset.sizeOf;refine Yy4 (Y1o ho hd hf (Yn ?_));refine Yy4 ?_;unfold setDrawn;refine Yy4 (Y1l ho hd hf ?_);dsimp only;refine Yy4 ?_;unfold setsByText;refine Yy4 (Y1p (Yn (Yn ?_)));have num:∀(ord:List Value) (sl:Nat->Nat),sl 0=0->Zq5 prog w a es ep t ord sl->ord.Perm (es.toList.map (·.2))->wpAny (model prog w) B.in1 (pure (rawInt 0) >>= fun first=>setEpoch a >>= fun e=>newFields "set_iterator" [first,rawInt 0,.ref a,rawInt (es.size:Int),rawInt (e:Int)] >>= fun it=>ret it)
   (fun fin s'=>∃ v,fin=Fin.done (Flow.ret v)/\∃ T' r,s'.TypeIs v T'/\typeLookup (Value.type T') (Str.ofString "__next__")=pure (some r)/\Q v s') E s:=fun ord sl h0 hN hp=>by
  refine Yy4 (Yn (Yy4 (wpAny_setEpoch_of ho hd hf (Yy4 ?_))));unfold newFields;refine Y0D ?_ (by size_fits);have hI:IsSi (s.heap.push { cls:=.type "set_iterator",data:=.fields [rawInt 0,rawInt 0,.ref a,rawInt (es.size:Int),rawInt (ep:Int)].toArray }) s.heap.objs.size a (rawInt (sl 0:Nat)) 0 es.size ep:=⟨_,Yo _ rfl,rfl,by rw [h0];rfl⟩
  refine Yn ⟨_,rfl,"set_iterator",_,IsSi.ty (s:={ s with heap:=_ }) hI,si_next.lookup,?_⟩;have ne:a≠s.heap.objs.size:=Yu lta
  refine k _ _ s.drawn ord _ _ hp (Zz09 hh hN hf ne) ⟨Yj _,hI,hS.keep fun o e=>Yy5 _ e⟩ (fun b hb=>?_) (by simp) (Yy7 _) fun c o e=>Yy5 _ e;rw[Y0Z];rcases Yh.mp hb with e | e
  ·rw[e];exact⟨Y0s _,.inr (Yy7 _)⟩
  ·rw[Yy1.mp e];exact⟨Y0w lta,.inl rfl⟩
 by_cases hb:w.params.followText "set-order"=true
 ·rw [if_neg (by show ¬ (!w.params.followText "set-order" && _)=true;rw [hb];simp)];refine num _ (fun _=>0) rfl (Zu7 hf hb) ?_
  have:=Zj4 (f:=w.params.setOrder a ep) es.size 0 es.toList #[] (by rw[YN])
  exact this.map _
 ·have hb':w.params.followText "set-order"=false:=by simpa using hb
  rw[hb']at hl;by_cases c:(!t.plain && decide (es.size > 1))=true
  ·rw [if_pos (by show(!w.params.followText "set-order" && (!t.plain && decide (es.size > 1)))=true;rw [hb',c];rfl)];refine Yy4 (ZG6 es.size (List.range es.size) s _ (by rw[YX]) fun pl d hp=>?_);have hpl:pl.length=es.size:=by rw[hp.length_eq,YX]
   refine Yy4 (wpAny_newTuple ?_ (by rw[Yb,hpl];exact hz));have hoS:∀(h:Heap) o,h.get? a=some o->(h.push { cls:=.type "tuple",data:=.seq (List.map (fun i=>rawInt ((i:Nat):Int)) pl).toArray }).get? a=some o:=fun h o e=>Yy5 _ e
   refine Yy4 (wpAny_setEpoch_of (hoS s.heap o ho) hd hf (Yy4 ?_));unfold newFields;refine Y0D ?_ (by size_fits);have ne:a≠s.heap.objs.size:=Yu lta
   generalize hh1:s.heap.push { cls:=.type "tuple",data:=.seq (List.map (fun i=>rawInt ((i:Nat):Int)) pl).toArray }=h1;have s1:h1.objs.size=s.heap.objs.size+1:=by rw[<- hh1];exact Y0Z ..
   have old1:∀ c o,s.heap.get? c=some o->h1.get? c=some o:=fun c o e=>by rw[<- hh1];exact Yy5 _ e
   have hP1:IsPl h1 s.heap.objs.size pl:=by rw[<- hh1];exact⟨_,0,Yo _ rfl,rfl⟩
   have hI:IsSi (h1.push { cls:=.type "set_iterator",data:=.fields [Value.ref s.heap.objs.size,rawInt 0,.ref a,rawInt (es.size:Int),rawInt (ep:Int)].toArray }) h1.objs.size a (.ref s.heap.objs.size) 0 es.size ep:=⟨_,Yo _ rfl,rfl,rfl⟩;refine Yn ⟨_,rfl,"set_iterator",_,IsSi.ty (s:={ s with heap:=_,drawn:=d }) hI,si_next.lookup,?_⟩;have hord:(pl.filterMap fun j=>(es[j]?).map (·.2)).Perm (es.toList.map (·.2)):=by refine(hp.filterMap _).trans ?_;rw[<- filterMap_getElem?_range es,List.map_filterMap]
   have hol:(pl.filterMap fun j=>(es[j]?).map (·.2)).length=pl.length:=by rw[hord.length_eq,Yb,YN,hpl]
   have W:=Zz59 (prog:=prog) (w:=w) (A:=A) (I:=h1.objs.size) (a:=a) (b:=s.heap.objs.size) (es:=es) (ep:=ep) (t:=t) hh hp hf (by rw[s1];exact Yu (Y0w lta)) (by rw[s1];exact Yu (Y0s _));rw[<- hol]at W;refine k _ _ d _ _ _ hord W ⟨Yj _,hI,hS.keep fun o e=>Yy5 _ (old1 _ o e),hP1.keep fun o e=>Yy5 _ e⟩ (fun b hb=>?_) (by simp) (by rw[s1];exact Y0P _) fun c o e=>Yy5 _ (old1 c o e);rw[Y0Z,s1];rcases Yh.mp hb with e | e
   ·rw[e,s1];exact⟨Y0s _,.inr (Y0P _)⟩
   ·rcases Yh.mp e with e | e
    ·rw[e];exact⟨Y0w (Y0w lta),.inl rfl⟩
    ·rw[Yy1.mp e];exact⟨Y0w (Y0s _),.inr (Yy7 _)⟩
  ·have c':(!t.plain && decide (es.size > 1))=false:=by simpa using c
   rw [if_neg (by show ¬ (!w.params.followText "set-order" && (!t.plain && decide (es.size > 1)))=true;rw [c'];simp)];exact num _ _ rfl (Zu9 hf hr hb' hl c') .rfl
end
theorem Zx12:typeLookup (.type "set") "__len__"=pure (some (.builtin "set.__len__")):=by rw [Y2q,Y1E];kernel_rfl
section
variable{prog:Program}{w:World}{A:Around}{E:Value->Shared->Prop}{s:Shared}
theorem ZG10 {r:Addr} {Q:Bool->Shared->Prop} (hT:s.TypeIs (.ref r) "set") (h:Q false s):wpAny (model prog w) A (Builtin.List.listLengthHint (.ref r)) Q E s:=by
 unfold Builtin.List.listLengthHint;refine Yy4 (wpAny_specialOf hT Zx12 ?_);generalize hid:("set.__len__":String)=id0
 wp_delta
 rw [show splitId id0=some ("set","__len__") from by subst hid;decide +kernel];subst hid;refine Yy4 (Yy38 (T:="set") (b:=true) hT sub_set_self ?_);show wpAny _ A (typeOf (Value.ref r) >>= _) _ _ _
 exact Yy4 (Yy36 (T:="set") hT (Yn h))
theorem Zn5 {a:Addr} {es:Array (Int × Value)} {ep:Nat} {t:SetTable} {Q:List Value->Shared->Prop} (hh:A.handled=none) (hS:SetIs s.heap a es ep t) (hf:t.fits es.size=true) (hr:Ris t) (hl:t.led=!w.params.followText "set-order") (hz:es.size<=sizeLine)
  (k:∀(out:List Value) h' tk d,out.Perm (es.toList.map (·.2))->s.heap.objs.size<=h'.objs.size->(∀ c o,s.heap.get? c=some o->h'.get? c=some o)->Q out { s with heap:=h',toks:=tk,drawn:=d }):wpAny (model prog w) A (collect (.ref a)) Q E s:=by
 have hL1:(s.heap.push (seqObj "list" #[] 0)).get? s.heap.objs.size=some (seqObj "list" #[] 0):=Yo _ rfl;have hS1:SetIs (s.heap.push (seqObj "list" #[] 0)) a es ep t:=hS.keep fun o e=>Yy5 _ e
 have lta:a<s.heap.objs.size:=let ⟨_,e,_⟩:=hS;Yp e
 unfold collect;refine Yy4 (Y2D (Y0c Yy33 ?_));show wpAny _ _ (newList [] >>= fun v=>again (.builtin "list.__iadd__" ⟨[v,.ref a],[]⟩)) _ _ s
 refine Yy4 (Y1T (Yn ⟨Yy26 _ (by decide +kernel),Y0c entry_list_iadd' ?_⟩));show wpAny _ _ (Builtin.List.listExtendWith (.ref s.heap.objs.size) (.ref a) (.ref s.heap.objs.size)) _ _ { s with heap:=s.heap.push (seqObj "list" #[] 0) }
 unfold Builtin.List.listExtendWith;refine Yy4 (Yy36 (T:="set") (SetIs.ty (s:={ s with heap:=s.heap.push (seqObj "list" #[] 0) }) hS1) ?_);have e1:Builtin.List.listSameRef (.ref s.heap.objs.size) (.ref a)=false:=by show(s.heap.objs.size == a)=false;exact Y2N (Y0K lta)
 rw[if_neg (by rw[e1];decide)];refine Yy4 (Zz49 (A:=A.in1) (by simp[hh]) hS1 hf hr hl hz fun I h' d ord fp St hord W st0 hfp hI hge kp=>?_);have hT':Shared.TypeIs { s with heap:=h',drawn:=d } (.ref a) "set":=SetIs.ty (s:={ s with heap:=h',drawn:=d }) (hS1.keep fun o e=>kp a o e)
 refine Yy4 (Y0G (ZG10 hT' ?_));rw[if_pos (by decide +kernel)];have hL2:=kp _ _ hL1
 refine Yy4 (wpAny_rule (Yy4 ?_));unfold Builtin.List.listTouch;refine Yy4 (Y1L (xs:=#[]) (n:=0) hL2 rfl ?_ (Yj _) (by show 1<=sizeLine+1;omega));have hL3:=Y0d (Obj.mapSeq (·.push Value.none)) hL2 rfl
 refine Y1L (xs:=#[].push Value.none) (n:=1) hL3 rfl ?_ (by show 1<=sizeLine;decide) (by show 0<=sizeLine+1;omega);have hL4:=Y0d (Obj.mapSeq Array.pop) hL3 rfl
 have old:∀ c o,c≠s.heap.objs.size->h'.get? c=some o->((h'.update s.heap.objs.size (Obj.mapSeq (·.push Value.none))).update s.heap.objs.size (Obj.mapSeq Array.pop)).get? c=some o:=fun c o hc e=>by rw[YU _ _ (Yy03 hc),YU _ _ (Yy03 hc)];exact e
 generalize (h'.update s.heap.objs.size (Obj.mapSeq (·.push Value.none))).update s.heap.objs.size (Obj.mapSeq Array.pop)=h4 at *;have hSf:s.heap.objs.size∉fp:=fun q=>by
  rcases(hfp _ q).2 with e | e
  ·exact Y0K lta e
  ·rw [show({ s with heap:=s.heap.push (seqObj "list" #[] 0) }:Shared).heap.objs.size=s.heap.objs.size+1 from Y0Z ..] at e;exact Nat.not_succ_le_self _ e
 have lenO:ord.length=es.size:=by rw[hord.length_eq,Yb,YN]
 refine Yn ⟨Yy15 PySem.F.plain_extend_loop _,codeAny_extend_loopS W.toS (by rw[lenO];exact hz) s.heap.objs.size hSf _ ord.length 0 _ #[] _ rfl (Yj _) (W.frame 0 _ _ st0 fun b hb o e=>old b o (fun q=>hSf (q ▸ hb)) e) hL4 (ItemsOf.nil _) fun s2 acc c m hL5 hacc=>?_⟩;have eo:acc.toList=ord:=by
  refine Y0H fun i=>?_;rw[YV];by_cases hi:i<ord.length
  ·have q:acc[i]?=some (acc[i]'(by rw[hacc.1];exact hi)):=YH _;rw[q,hacc.2 i _ q]
  ·rw[QP (by omega),Y1q (by rw[hacc.1];omega)]
 show wpAny _ A (load s.heap.objs.size >>= _) Q E s2;refine Yy4 (Yy37 hL5 ?_);refine Yn ?_;rw[eo,Moved.eq_with m];refine k ord s2.heap s2.toks d hord (Y1A (Yp hL5)) fun c o e=>?_;have lt:=Yp e
 refine m.heap c o (fun q=>?_) (old c o (Yu lt) (kp c o (Yy5 _ e)));rcases Yh.mp q with e' | e'
 ·exact Yu lt e'
 ·rw[Yy1.mp e']at lt
  have:=Yq lt (YF (Y0P _) (Y0Z .. ▸ hge))
  exact Y0z _ this
end
theorem Zy2{m:List Int}:∀ {l:List Int},m.Nodup->l.length=m.length->(∀ x∈m,x∈l)->l.Perm m:=by
 induction m with
 | nil=>intro l _ h _;rw[YK.mp h]
 | cons x m ih =>
  intro l hn hl hs;have hx:=hs x Ye
  have hn':=Yy09.mp hn;refine(List.perm_cons_erase hx).trans ((ih hn'.2 (by rw[Y1Q hx,hl];rfl) fun y hy=>?_).cons x);have ne:y≠x:=fun e=>hn'.1 (by rw[<- e];exact hy)
  exact(Y2c ne).mpr (hs y (Yg _ hy))
theorem ZG7{us vs:List Value}(p:us.Perm vs):∀ {ns:List Int},IntsAre vs ns->∃ ms,IntsAre us ms/\ms.Perm ns:=by
 induction p with
 | nil=>intro ns h;exact⟨ns,h,.rfl⟩
 | cons x _ ih =>
  intro ns h;cases h with
  | cons n t h =>
   obtain⟨ms,h1,h2⟩:=ih h;exact⟨n :: ms,.cons n t h1,h2.cons n⟩
 | swap x y l =>
  intro ns h;cases h with
  | cons n t h =>
   cases h with
   | cons m u h=>exact⟨m :: n :: _,.cons m u (.cons n t h),.swap n m _⟩
 | trans _ _ ih1 ih2 =>
  intro ns h;obtain⟨ms,h1,h2⟩:=ih2 h;obtain⟨ls,h3,h4⟩:=ih1 h1;exact⟨ls,h3,h4.trans h2⟩
theorem ZN9{vs:List Value}{ns:List Int}(h:IntsAre vs ns):vs.length=ns.length:=by
 induction h with
 | nil=>rfl
 | cons n t _ ih=>rw[YA,YA,ih]
theorem Zy1(val:Nat->Int):∀ i,(firstMet val i).Nodup
 | 0=>.nil
 | i+1=>by
  rw[firstMet_succ];unfold step_dedup;split
  ·exact Zy1 val i
  ·rename_i h;refine Yy06.mpr ⟨Zy1 val i,by simp,fun a ha b hb e=>?_⟩;rw[Yy1.mp hb]at e;exact h (Y2J.mpr ⟨a,ha,by rw[e];simp⟩)
section
variable{prog:Program}{w:World}{A:Around}{E:Value->Shared->Prop}{s:Shared}
theorem Zg2:∀ {l:List (Int × Value)},ElemsOf (intKind prog w) l->∃ ms,IntsAre (l.map (·.2)) ms/\∀ z,z∈ms↔∃ y∈l,(intKind prog w).is z y.2=true
 | [],_=>⟨[],.nil,fun z=>⟨fun h=>(by cases h),fun⟨y,h,_⟩=>(by cases h)⟩⟩
 | y :: l,h=>by
  obtain⟨ms,h1,h2⟩:=Zg2 h.tail;obtain⟨⟨z,hz,_⟩,_⟩:=h.head;obtain⟨hy,v⟩:=y;obtain⟨u,rfl⟩:=Value.isInt_shape (show Value.isInt z v=true from hz);refine⟨z :: ms,.cons z u h1,fun x=>?_⟩;rw[Yh,h2];constructor
  ·rintro(e | ⟨y,hy,q⟩)
   ·exact⟨_,Ye,e ▸ hz⟩
   ·exact⟨y,Yg _ hy,q⟩
  ·rintro⟨y,hy,q⟩;rcases Yh.mp hy with e | e
   ·rw[e]at q;exact .inl ((intKind prog w).inj _ _ _ q hz)
   ·exact .inr ⟨y,e,q⟩
theorem ZF5 {a:Addr} {led:Bool} {S:Int->Bool} {n:Nat} {Q:Value->Shared->Prop} (hh:A.handled=none) (hS:SetR prog w s.heap a (!w.params.followText "set-order") S n) (h64:n<64)
  (k:∀(ms:List Int) (out:List Value) r h' tk d c,IntsAre out ms->ms.Pairwise (·<=·)->ms.length=n->(∀ z,z∈ms↔S z=true)->s.heap.objs.size<=r->h'.get? r=some (seqObj "list" out.toArray c)->(∀ c o,s.heap.get? c=some o->h'.get? c=some o)->Q (.ref r) { s with heap:=h',toks:=tk,drawn:=d }) :
  wpAny (model prog w) A (call (.builtin "sorted") [.ref a]) Q E s:=by
 obtain⟨o,es,ep,t,ho,hx,hd,he,hm,hb,hf,hn,hr,hl⟩:=hS;obtain⟨ns,hI,hmem⟩:=Zg2 he;have hsl:sizeLine=16777216:=Y0M
 refine Calls.call_function_entry kind_sorted plain_sorted entry_sorted (args_sorted1 _) ?_;unfold Builtin.«sorted»;refine Yy4 (m:=checkCount "sorted" 1 1 _) (Yn ?_);refine Yy4 (Zn5 (A:=A.in1) (by simp[hh]) ⟨o,ho,hx,hd⟩ hf hr hl (by omega) fun out h1 tk d hp hge kp=>?_);obtain⟨ls,hI2,hp2⟩:=ZG7 hp hI;have lo:=ZN9 hI2
 have ll:ls.length=n:=by rw[<- lo,hp.length_eq,Yb,YN,hn]
 refine Yy4 (Y1T ?_);have hL:(h1.push (seqObj "list" out.toArray 0)).get? h1.objs.size=some (seqObj "list" out.toArray 0):=Yo _ rfl
 refine Yy4 (Y0G (Yy14 slot_list_sort ⟨_,hL,rfl⟩ entry_list_sort (list_sort_tree hL hI2 (by omega) fun res ms b1 b2 b3=>⟨_,rfl,?_⟩) (args_list_sort _)));obtain⟨c,hc⟩:=sortedHeap_at (out:=res) hL;refine Yn ⟨_,rfl,k ms res.toList h1.objs.size _ tk d c b1 b3 (by rw[b2.length_eq,ll]) (fun z=>by rw[b2.mem_iff,hp2.mem_iff,hmem,hm]) hge (by rw[Array.toArray_toList];exact hc) fun b ob e=>?_⟩;have lt:=Yp (kp b ob e)
 rw[sortedHeap_old (Yu lt) (by rw[size_push'];exact Y0w lt)];exact Yy5 _ (kp b ob e)
end
section
variable{X:Cx}{p p2 pos pos2:Pos}{e:Expr}{t:TA}
theorem Inv.drew{X:Cx}{pins:List (Addr × Obj)}{σ:St}{H:Hp}{s:Shared}(I:Inv X pins σ H s)(d:Drawn):Inv X pins σ H { s with drawn:=d } :=
 I.step (g':=s.gens) (d':=d) (t':=s.toks) (h':=s.heap) (ch:=[]) (fun b hb=>(by cases hb)) (fun b o _ _ _ q _=>q) (fun b o _ _ _ q _=>⟨o.slots,q⟩) (fun b o _ _ n=>n) (fun b o _ q=>⟨o,q⟩) (fun b xs q=>q) (fun b o u q=>q) (fun b ps q=>⟨#[],by rw[q];simp⟩) (fun m hm=>hm) I.hok I.bare
def ZB5(K:PySem.W.Frag)(t:TA):TE:=fun σ H Q=>t σ H fun vs H1=>∃(a:Addr) (ns:List Int),vs=[.ref a]/\SqL K H1 a (ns.map V.int)/\ns.length<64/\∀ ms:List Int,ms.Pairwise (· < ·)->(∀ z,z∈ms↔z∈ns)->∀ l,H1 l=none->Q (.ref l) (upd H1 l (.lst (ms.map V.int)))
theorem Za2 (K:PySem.W.Frag) (hc:X.calm=true) (g1:Gl X "sorted") (m1:X.mg "sorted"=none) (g2:Gl X "set") (m2:X.mg "set"=none) (ha:PA X [e] t) (hk:X.K=K:=by rfl)
  (he:starEach [e] X.env=[(false,eval e X.env)]:=by rfl)
  (he2:starEach [.Call (.Name "set" p2) [e] [] pos2] X.env=[(false,eval (.Call (.Name "set" p2) [e] [] pos2) X.env)]:=by rfl) :
  PE X (.Call (.Name "sorted" p) [.Call (.Name "set" p2) [e] [] pos2] [] pos) (ZB5 K t):=by
 subst hk;intro pins s σ H Q I h;refine Y0U (ZR2 I g1 m1 Boot.«sorted» ?_);refine Y2u ?_ (by rw[he2];rfl) rfl;rw[he2];show wpAny _ _ (spliced ((false,eval (.Call (.Name "set" p2) [e] [] pos2) X.env) :: backTo pos [])) _ _ s
 refine Calls.spliced_cons ?_;refine Y0U (ZR2 I g2 m2 Boot.«set» ?_);refine Y0n (thn (ha pos2 pins s σ H _ I h) fun us s1 ⟨vs,H1,I1,r1,q1⟩=>?_) (by rw[he];rfl) rfl;obtain⟨a,ns,rfl,hq,hn,q⟩:=q1;obtain⟨u,rfl,ru⟩:=Zz75 r1;obtain rfl:u=Value.ref a:=ru;obtain⟨its,rv,pl,hz⟩:=I1.list hq;have hi:=ZI rv
 have el:its.toArray.size=ns.length:=by rw[Ya,<- rv.length,Yb]
 have sb:scanBound=4096:=rfl;refine ZK10 (I.ok.hd hc) pl.isList (ns:=ns) (by simpa using hi) (by omega) fun h2 tk hS kp=>?_;refine Calls.spliced_nil ?_;have fl:=firstMet_length_le (fun i=>ns.getD i 0) its.toArray.size
 refine ZF5 (led:=true) (s:={ s1 with heap:=h2,toks:=tk }) (I.ok.hd hc) hS (by omega) fun ms out r h3 tk3 d c hI hs hl hmem hge hr kp3=>?_;have em:∀ z,z∈ms↔z∈ns:=fun z=>by
  rw[hmem,firstMet_any,el];have e1:(List.range ns.length).map (fun i=>ns.getD i 0)=ns:=by
   refine Y0H fun i=>?_;rw[Ym];by_cases c:i<ns.length
   ·rw[Y0k c,Yy0 c,Y2O,Yy3,Yy0 c];rfl
   ·rw[QP (by rw[YX];omega),QP (by omega)];rfl
  rw[e1];simp
 have hnd:ms.Nodup:=(Zy2 (Zy1 _ _) hl fun x hx=>(hmem x).mpr (Y2J.mpr ⟨x,hx,by simp⟩)).nodup_iff.mpr (Zy1 _ _);have hlt:s1.heap.objs.size<=h2.objs.size:=let ⟨_,_,_,_,e,_⟩:=hS;Y1A (Yp e)
 have hge2:s1.heap.objs.size<=r:=YF hlt hge;have hml:ms.length<=ns.length:=by rw[hl,<- el];exact fl
 have I2:=(I1.laid (o:=.lst (ms.map V.int)) (h':=h3) (t':=tk3) (fun b o e=>kp3 b o (kp b o e)) hge2 ⟨by rw[Yb];have:sizeLine=16777216:=Y0M;omega,out,c,Zc1 hI,hr⟩).drew d;exact⟨.ref r,_,I2,rfl,q ms (My.srt_strict hs hnd) em r (I1.hok.fresh hge2)⟩
end
end L2
namespace My
open PySem L2
theorem ZV6{A B:List (Nat × Nat)}{f g:Nat->Nat}{N k:Nat}(hf:∀ i j,i<N->j<N->(f i=f j↔Conn A i j))(hk:∀ i,i<N->f i<k)(hg:∀ a,a<k->g a<N/\f (g a)=a)(hA:InN N A)(hB:InN N B) :
  (∀ i j,i<N->j<N->Conn (A++B) i j)↔∀ a b,a<k->b<k->Conn (B.map fun e=>(f e.1,f e.2)) a b:=by
 have gi:∀ i,i<N->Conn A (g (f i)) i:=fun i hi=>by obtain⟨h1,h2⟩:=hg (f i) (hk i hi);exact(hf _ _ h1 hi).mp h2
 constructor
 ·intro c a b ha hb;obtain⟨a1,a2⟩:=hg a ha;obtain⟨b1,b2⟩:=hg b hb;have q:=(c (g a) (g b) a1 b1).image (f:=f) (fs:=B.map fun e=>(f e.1,f e.2)) fun e he=>by
   rcases Yy9.mp he with q | q
   ·obtain⟨e1,e2⟩:=hA e q;rw[(hf _ _ e1 e2).mpr (.edge q)];exact .refl _
   ·exact .edge (Yr.mpr ⟨e,q,rfl⟩)
  rw[a2,b2]at q;exact q
 ·intro c i j hi hj;have up:∀ {i j:Nat},Conn A i j->Conn (A++B) i j:=fun q=>q.mono fun e he=>Yk _ he
  have q:=(c (f i) (f j) (hk i hi) (hk j hj)).image (f:=g) (fs:=A++B) fun e he=>by obtain⟨d,hd,rfl⟩:=Yr.mp he;obtain⟨d1,d2⟩:=hB d hd;exact(up (gi _ d1)).trans ((Conn.edge (Yd _ hd)).trans (up (gi _ d2)).symm)
  exact(up (gi i hi)).symm.trans (q.trans (up (gi j hj)))
def PC(n:Int)(ps:List (Int × Int))(I O:List Int)(c:Nat):Prop:=∃ L:List (List Int),L.Nodup/\(∀ l,l∈L↔Zd n ps l/\(∀ z∈I,z∈l)/\∀ z∈O,z∉l)/\L.length=c
theorem PC.uniq{n:Int}{ps:List (Int × Int)}{I O:List Int}{c d:Nat}(h1:PC n ps I O c)(h2:PC n ps I O d):c=d:=by
 obtain⟨L,a1,a2,a3⟩:=h1;obtain⟨M,b1,b2,b3⟩:=h2
 have:L.Perm M:=(Y0r a1 b1).mpr fun l=>by rw[a2,b2]
 rw[<- a3,<- b3,this.length_eq]
def freT(m:Nat)(gone:List Int):List Int:=(rgL m).filter fun z=>decide (z∉gone)
theorem freT_mem{m:Nat}{gone:List Int}{z:Int}:z∈freT m gone↔(0<=z/\z<(m:Int))/\z∉gone:=by unfold freT;rw[Yi,YJ,rgL_mem]
theorem ZC6(m:Nat)(gone:List Int):(freT m gone).Pairwise (· < ·):=(isSet_iff.mp (Zv2 m)).2.filter _
def conW(f:Nat->Nat)(ps:List (Int × Int))(R:List Int):List (Int × Int):=R.map fun z=>((f (Zw ps z).1:Int),(f (Zw ps z).2:Int))
def upR(R:List Int)(S:List Int):List Int:=S.map fun t=>R.getD t.toNat 0
theorem Zx10{R S:List Int}(hR:R.Pairwise (· < ·))(hS:IsSet R.length S):(upR R S).Pairwise (· < ·):=by
 obtain⟨a1,a2⟩:=isSet_iff.mp hS;refine Y0V.mpr (a2.imp_of_mem fun {a b} ha hb hab=>?_);have h1:=a1 a ha
 have h2:=a1 b hb;rw[Yy3,Yy3,Yy0 (by omega),Yy0 (by omega)];exact Yy00.mp hR a.toNat b.toNat (by omega) (by omega) (by omega)
theorem Zc3{R S:List Int}(hS:IsSet R.length S){z:Int}(h:z∈upR R S):z∈R:=by
 obtain⟨t,ht,rfl⟩:=Yr.mp h;have h1:=hS.all t ht
 rw[Yy3,Yy0 (by omega)];exact Y0j _
theorem Zf10{f:Nat->Nat}{ps:List (Int × Int)}{R S:List Int}(hS:IsSet R.length S):Zz8 (conW f ps R) S=(Zz8 ps (upR R S)).map fun e=>(f e.1,f e.2):=by
 unfold Zz8 upR;rw[Y1B,Y1B];refine YL fun t ht=>?_;have h1:=hS.all t ht
 have e:(conW f ps R).getD t.toNat (0,0)=((f (Zw ps (R.getD t.toNat 0)).1:Int),(f (Zw ps (R.getD t.toNat 0)).2:Int)):=by unfold conW;rw[Yy3,Ym,Yy3,Yy0 (by omega)];rfl
 rw[e];rfl
def Zz35(m:Nat)(I R S:List Int):List Int:=(rgL m).filter fun z=>decide (z∈I\/z∈upR R S)
theorem Zz93(m:Nat)(I R S:List Int):(Zz35 m I R S).Pairwise (· < ·):=(isSet_iff.mp (Zv2 m)).2.filter _
theorem backT_mem{m:Nat}{I R S:List Int}{z:Int}:z∈Zz35 m I R S↔(0<=z/\z<(m:Int))/\(z∈I\/z∈upR R S):=by unfold Zz35;rw[Yi,YJ,rgL_mem]
section
variable{n:Int}{ps:List (Int × Int)}{I O S:List Int}{f g:Nat->Nat}{k:Nat}
theorem Zp2(hI:IsSet ps.length I)(hS:IsSet (freT ps.length (I++O)).length S):(Zz35 ps.length I (freT ps.length (I++O)) S).Perm (I++upR (freT ps.length (I++O)) S):=by
 have ua:=Zx10 (ZC6 ps.length (I++O)) hS;refine(Y0r (Zn1 (Zz93 _ _ _ _)) (Yy06.mpr ⟨hI.nodup,Zn1 ua,fun a ha b hb e=>?_⟩)).mpr fun z=>?_
 ·have:=(freT_mem.mp (Zc3 hS hb)).2
  exact this (Yk _ (e ▸ ha))
 ·rw[backT_mem,Yy9];refine⟨fun h=>h.2,fun h=>⟨?_,h⟩⟩;rcases h with q | q
  ·exact hI.all z q
  ·exact(freT_mem.mp (Zc3 hS q)).1
theorem ZW6(g0:Zu n ps)(hI:IsSet ps.length I)(hf:∀ i j,i<n.toNat->j<n.toNat->(f i=f j↔Conn (Zz8 ps I) i j))(hk:∀ i,i<n.toNat->f i<k)(hg:∀ a,a<k->g a<n.toNat/\f (g a)=a)(hS:IsSet (freT ps.length (I++O)).length S) :
  ((∀ i j,i<n.toNat->j<n.toNat->Conn (Zz8 ps (Zz35 ps.length I (freT ps.length (I++O)) S)) i j)↔∀ a b,a<k->b<k->Conn (Zz8 (conW f ps (freT ps.length (I++O))) S) a b):=by
 have hp:=Zp2 (O:=O) hI hS;have hA:=ZK (ns:=I) g0 hI.all
 have hB:=ZK (ns:=upR (freT ps.length (I++O)) S) g0 fun z hz=>(freT_mem.mp (Zc3 hS hz)).1;have e:Zz8 ps (I++upR (freT ps.length (I++O)) S)=Zz8 ps I++Zz8 ps (upR (freT ps.length (I++O)) S):=by unfold Zz8;exact YE
 rw[Zf10 hS,<- ZV6 hf hk hg hA hB,<- e];exact⟨fun c i j hi hj=>(ZX fun z=>hp.mem_iff).mp (c i j hi hj),fun c i j hi hj=>(ZX fun z=>hp.mem_iff).mpr (c i j hi hj)⟩
theorem Zv13{T:List Int}(hI:IsSet ps.length I)(hT:IsSet ps.length T)(h1:∀ z∈I,z∈T)(h2:∀ z∈O,z∉T):∃ S,IsSet (freT ps.length (I++O)).length S/\T=Zz35 ps.length I (freT ps.length (I++O)) S:=by
 refine⟨(rgL (freT ps.length (I++O)).length).filter fun t=>decide ((freT ps.length (I++O)).getD t.toNat 0∈T),isSet_iff.mpr ⟨fun t ht=>rgL_mem.mp (Yi.mp ht).1,(isSet_iff.mp (Zv2 _)).2.filter _⟩,Zz65 (isSet_iff.mp hT).2 (Zz93 _ _ _ _) fun z=>?_⟩;rw[backT_mem];constructor
 ·intro hz;refine⟨hT.all z hz,?_⟩;by_cases c:z∈I
  ·exact .inl c
  ·right;have hR:z∈freT ps.length (I++O):=freT_mem.mpr ⟨hT.all z hz,fun q=>by
    rcases Yy9.mp q with q | q
    ·exact c q
    ·exact h2 z q hz⟩
   obtain⟨t,ht⟩:=YZ hR;have e:(freT ps.length (I++O)).getD ((t:Int)).toNat 0=z:=by rw[Yw];exact getD_of ht
   refine Yr.mpr ⟨(t:Int),Yi.mpr ⟨rgL_mem.mpr ⟨by omega,by have:=(Yy2.mp ht).1;omega⟩,Yl (by rw[e];exact hz)⟩,e⟩
 ·rintro⟨_,q | q⟩
  ·exact h1 z q
  ·obtain⟨t,ht,rfl⟩:=Yr.mp q;exact Yt (Yi.mp ht).2
theorem ZZ7{S':List Int}(hS:IsSet (freT ps.length (I++O)).length S)(hS':IsSet (freT ps.length (I++O)).length S')(e:Zz35 ps.length I (freT ps.length (I++O)) S=Zz35 ps.length I (freT ps.length (I++O)) S'):S=S':=by
 have key:∀ {A B:List Int},IsSet (freT ps.length (I++O)).length A->IsSet (freT ps.length (I++O)).length B->Zz35 ps.length I (freT ps.length (I++O)) A=Zz35 ps.length I (freT ps.length (I++O)) B->∀ t,t∈A->t∈B:=fun {A B} hA hB e t ht=>by
  have h1:=hA.all t ht;have hm:(freT ps.length (I++O)).getD t.toNat 0∈upR (freT ps.length (I++O)) A:=Yr.mpr ⟨t,ht,rfl⟩
  have hR:=freT_mem.mp (Zc3 hA hm);have h2:(freT ps.length (I++O)).getD t.toNat 0∈Zz35 ps.length I (freT ps.length (I++O)) B:=e ▸ backT_mem.mpr ⟨hR.1,.inr hm⟩
  rcases(backT_mem.mp h2).2 with q | q
  ·exact absurd (Yk _ q) hR.2
  ·obtain⟨u,hu,e2⟩:=Yr.mp q;have h3:=hB.all u hu
   rw[Yy3,Yy3,Yy0 (by omega),Yy0 (by omega)]at e2
   have:=nodup_get (Zn1 (ZC6 ps.length (I++O))) (i:=u.toNat) (j:=t.toNat) (Yy0 (by omega)) (by rw[Yy0 (by omega)];exact Yy04 some e2.symm)
   have e3:u=t:=by omega
   exact e3 ▸ hu
 exact Zz65 (isSet_iff.mp hS).2 (isSet_iff.mp hS').2 fun t=>⟨key hS hS' e t,key hS' hS e.symm t⟩
theorem ZS4(f:Nat->Nat)(ps:List (Int × Int))(R:List Int):(conW f ps R).length=R.length:=Yb ..
theorem ZL13(g0:Zu n ps)(hI:IsSet ps.length I)(hIO:∀ z∈I,z∉O)(hf:∀ i j,i<n.toNat->j<n.toNat->(f i=f j↔Conn (Zz8 ps I) i j))(hk:∀ i,i<n.toNat->f i<k)(hg:∀ a,a<k->g a<n.toNat/\f (g a)=a)(hn:(k:Int)+(I.length:Int)=n){c:Nat}(h:TC k (conW f ps (freT ps.length (I++O))) c):PC n ps I O c:=by
 obtain⟨L,h1,h2,h3⟩:=h;have hs:∀ l∈L,IsSet (freT ps.length (I++O)).length l:=fun l hl=>ZS4 f ps _ ▸ ((h2 l).mp hl).1
 have len:∀ {S:List Int},IsSet (freT ps.length (I++O)).length S->(Zz35 ps.length I (freT ps.length (I++O)) S).length=I.length+S.length:=fun {S} hS=>by rw[(Zp2 hI hS).length_eq,Yy8];unfold upR;rw[Yb]
 have iff:∀ {S:List Int},IsSet (freT ps.length (I++O)).length S->(Zd n ps (Zz35 ps.length I (freT ps.length (I++O)) S)↔Zd k (conW f ps (freT ps.length (I++O))) S):=fun {S} hS=>by
  have l:=len hS;have q:=ZW6 (O:=O) g0 hI hf hk hg hS
  constructor
  ·rintro⟨a1,a2,a3⟩;exact⟨by rw[ZS4];exact hS,by omega,fun a b ha hb=>q.mp a3 a b (by omega) (by omega)⟩
  ·rintro⟨a1,a2,a3⟩;exact⟨isSet_iff.mpr ⟨fun z hz=>(backT_mem.mp hz).1,Zz93 _ _ _ _⟩,by omega,q.mpr fun a b ha hb=>a3 a b (by omega) (by omega)⟩
 refine⟨L.map (Zz35 ps.length I (freT ps.length (I++O))),Y0V.mpr (h1.imp_of_mem fun {a b} ha hb hab e=>hab (ZZ7 (hs a ha) (hs b hb) e)),fun T=>?_,by rw[Yb,h3]⟩;rw[Yr];constructor
 ·rintro⟨S,hS,rfl⟩;refine⟨(iff (hs S hS)).mpr ((h2 S).mp hS),fun z hz=>backT_mem.mpr ⟨hI.all z hz,.inl hz⟩,fun z hz q=>?_⟩;rcases(backT_mem.mp q).2 with q | q
  ·exact hIO z q hz
  ·exact(freT_mem.mp (Zc3 (hs S hS) q)).2 (Yd _ hz)
 ·rintro⟨hT,q1,q2⟩;obtain⟨S,hS,rfl⟩:=Zv13 hI hT.1 q1 q2;exact⟨S,(h2 S).mpr ((iff hS).mp hT),rfl⟩
theorem ZX6(g0:Zu n ps)(gone:List Int)(hk:∀ i,i<n.toNat->f i<k)(k1:1<=k)(kn:k<=n.toNat):Zu k (conW f ps (freT ps.length gone)):=by
 obtain⟨g1,g2,g3,g4⟩:=g0;refine⟨by omega,by omega,?_,fun p hp=>?_⟩
 ·rw[ZS4]
  have:(freT ps.length gone).length<=(rgL ps.length).length:=Y0a ..
  have:=(Zv2 ps.length).len
  omega
 ·obtain⟨z,hz,rfl⟩:=Yr.mp hp;have hz1:=(freT_mem.mp hz).1
  obtain⟨q,hq⟩:∃ q,ps[z.toNat]?=some q:=⟨_,Yy0 (by omega)⟩;obtain⟨e1,e2,e3,e4⟩:=g4 q (Yy6 hq);have ee:Zw ps z=(q.1.toNat,q.2.toNat):=by unfold Zw;rw[getD_of hq]
  rw[ee];have a:=hk q.1.toNat (by omega)
  have b:=hk q.2.toNat (by omega);exact⟨by show(0:Int)<=(f q.1.toNat:Int);omega,by show(f q.1.toNat:Int)<(k:Int);omega,by show(0:Int)<=(f q.2.toNat:Int);omega,by show(f q.2.toNat:Int)<(k:Int);omega⟩
theorem Zz911(g0:Zu n ps)(hI:IsSet ps.length I)(hf:∀ i j,i<n.toNat->j<n.toNat->(f i=f j↔Conn (Zz8 ps I) i j))(hk:∀ i,i<n.toNat->f i<k)(hg:∀ a,a<k->g a<n.toNat/\f (g a)=a)(k1:1<=k)(kn:k<=n.toNat)(hn:n<(k:Int)+(I.length:Int)):PC n ps I O 0:=by
 refine⟨[],.nil,fun T=>⟨fun h=>(by cases h),fun⟨hT,q1,q2⟩=>?_⟩,rfl⟩;obtain⟨S,hS,rfl⟩:=Zv13 hI hT.1 q1 q2;have q:=(ZW6 (O:=O) g0 hI hf hk hg hS).mp hT.2.2
 have gg:=ZX6 (f:=f) g0 (I++O) hk k1 kn;have l:=Ze10 gg (by rw[ZS4];exact hS) fun a b ha hb=>q a b (by omega) (by omega)
 have l2:=hT.2.1;rw[(Zp2 hI hS).length_eq,Yy8]at l2;unfold upR at l2;rw[Yb]at l2;omega
end
def nix:List Int->Int->Nat
 | [],_=>0
 | x :: l,z=>if x=z then 0 else nix l z+1
theorem Zf2:∀ {l:List Int} {z:Int},z∈l->l[nix l z]?=some z
 | x :: l,z,h=>by
  unfold nix;by_cases c:x=z
  ·rw[if_pos c,c];rfl
  ·rw[if_neg c];exact Zf2 ((Yh.mp h).resolve_left fun e=>c e.symm)
theorem ZU12{l:List Int}{z:Int}(h:z∈l):nix l z<l.length:=(Yy2.mp (Zf2 h)).1
theorem Zj11{l:List Int}{z y:Int}(hz:z∈l)(hy:y∈l):nix l z=nix l y↔z=y:=by
 refine⟨fun e=>?_,fun e=>by rw[e]⟩;have h1:=Zf2 hz
 rw[e,Zf2 hy]at h1;exact(Yc h1).symm
theorem ZV12{l:List Int}(hn:l.Nodup){i:Nat}{z:Int}(h:l[i]?=some z):nix l z=i:=nodup_get hn (Zf2 (Yy6 h)) h
theorem Zm11{M:List Int}{i:Nat}(h:i<M.length):mk M i∈M:=by unfold mk;rw[Yy3,Yy0 h];exact Y0j h
section
variable{N:Nat}{es:List (Nat × Nat)}{F:List Int}
theorem Zy9(h:InN N es)(hF:F.Pairwise (· < ·))(hm:∀ z,z∈F↔z∈pms N es) :
  ∃ g:Nat->Nat,(∀ i j,i<N->j<N->(nix F (mk (pms N es) i)=nix F (mk (pms N es) j)↔Conn es i j))/\(∀ i,i<N->nix F (mk (pms N es) i)<F.length)/\∀ a,a<F.length->g a<N/\nix F (mk (pms N es) (g a))=a:=by
 have hl:=Zi N es;have inF:∀ i,i<N->mk (pms N es) i∈F:=fun i hi=>(hm _).mpr (Zm11 (by omega))
 have ex:∀ a,∃ i,a<F.length->i<N/\nix F (mk (pms N es) i)=a:=fun a=>by
  by_cases c:a<F.length
  ·have q:=(hm _).mp (Y0j c);obtain⟨i,hi⟩:=YZ q;have hi2:=(Yy2.mp hi).1
   refine⟨i,fun _=>⟨by omega,?_⟩⟩;have e:mk (pms N es) i=F[a]:=by unfold mk;exact getD_of hi
   rw[e];exact ZV12 (Zn1 hF) (Yy0 c)
  ·exact⟨0,fun h=>absurd h c⟩
 refine⟨fun a=>Classical.choose (ex a),fun i j hi hj=>?_,fun i hi=>ZU12 (inF i hi),fun a ha=>Classical.choose_spec (ex a) ha⟩;rw[Zj11 (inF i hi) (inF j hj)];exact Zw2 h hi hj
theorem ZX9{M:List Int}:∀(i:Nat),∃ p,p<=i/\fstB M p=true/\mk M p=mk M i:=by
 intro i
 induction i using Nat.strongRecOn with
 | _ i ih =>
  by_cases c:fstB M i=true
  ·exact⟨i,Yy7 _,c,rfl⟩
  ·obtain⟨j,hj,e⟩:∃ j,j<i/\mk M j=mk M i:=Yf fun no=>c (fstB_iff.mpr fun j hj e=>no ⟨j,hj,e⟩);obtain⟨p,h1,h2,h3⟩:=ih j hj;exact⟨p,by omega,h2,h3.trans e⟩
theorem ZP7{M:List Int}(hF:F.Pairwise (· < ·))(hm:∀ z,z∈F↔z∈M):F.length=cnt M:=by
 have e:F.Perm ((fstA M M.length).map (mk M)):=by
  refine(Y0r (Zn1 hF) ?_).mpr fun z=>?_
  ·refine Y0V.mpr ?_;unfold fstA;refine(Yy11.filter (fstB M)).imp_of_mem fun {a b} ha hb hab=>?_;exact fstB_iff.mp (Yi.mp hb).2 a hab
  ·rw[hm,Yr];constructor
   ·intro hz;obtain⟨i,hi⟩:=YZ hz;have hi2:=(Yy2.mp hi).1
    obtain⟨p,h1,h2,h3⟩:=ZX9 (M:=M) i;refine⟨p,Yi.mpr ⟨YD.mpr (by omega),h2⟩,h3.trans ?_⟩;unfold mk;exact getD_of hi
   ·rintro⟨p,hp,rfl⟩;exact Zm11 (YD.mp (Yi.mp hp).1)
 rw[e.length_eq,Yb];rfl
theorem Zz04(h:InN N es)(hN:1<=N)(hF:F.Pairwise (· < ·))(hm:∀ z,z∈F↔z∈pms N es):1<=F.length/\F.length<=N/\N<=F.length+es.length:=by
 have e:=ZP7 hF hm;have hl:=Zi N es
 have e2:=Zg10 (ZI2 (n:=N) (es:=es) h);have e3:=ZU4 es h
 have e4:=ZT4 (M:=pms N es) (by omega);have e5:cnt (pms N es)<=N:=by unfold cnt fstA;refine YF (Y0a ..) ?_;rw[YX];omega
 omega
end
theorem PC.congr{n:Int}{ps:List (Int × Int)}{I O I' O':List Int}{c:Nat}(hI:∀ z,z∈I↔z∈I')(hO:∀ z,z∈O↔z∈O')(h:PC n ps I O c):PC n ps I' O' c:=by obtain⟨L,h1,h2,h3⟩:=h;refine⟨L,h1,fun l=>?_,h3⟩;rw[h2];exact⟨fun⟨a,b,d⟩=>⟨a,fun z hz=>b z ((hI z).mpr hz),fun z hz=>d z ((hO z).mpr hz)⟩,fun⟨a,b,d⟩=>⟨a,fun z hz=>b z ((hI z).mp hz),fun z hz=>d z ((hO z).mp hz)⟩⟩
theorem TC.pc{n:Int}{ps:List (Int × Int)}{c:Nat}(h:TC n ps c):PC n ps [] [] c:=by obtain⟨L,h1,h2,h3⟩:=h;exact⟨L,h1,fun l=>by rw[h2];exact⟨fun h=>⟨h,fun z hz=>(by cases hz),fun z hz=>(by cases hz)⟩,fun h=>h.1⟩,h3⟩
theorem Zq9{n:Int}{ps:List (Int × Int)}{t:Int}{I O:List Int}{a b:Nat}(h1:PC n ps (t :: I) O a)(h2:PC n ps I (t :: O) b):PC n ps I O (a+b):=by
 obtain⟨L,l1,l2,l3⟩:=h1;obtain⟨M,m1,m2,m3⟩:=h2;refine⟨L++M,Yy06.mpr ⟨l1,m1,fun x hx y hy e=>?_⟩,fun T=>?_,by rw[Yy8,l3,m3]⟩
 ·rw[e]at hx;exact((m2 y).mp hy).2.2 t Ye (((l2 y).mp hx).2.1 t Ye)
 ·rw[Yy9,l2,m2];constructor
  ·rintro(⟨a1,a2,a3⟩ | ⟨a1,a2,a3⟩)
   ·exact⟨a1,fun z hz=>a2 z (Yg _ hz),a3⟩
   ·exact⟨a1,a2,fun z hz=>a3 z (Yg _ hz)⟩
  ·rintro⟨a1,a2,a3⟩;by_cases c:t∈T
   ·exact .inl ⟨a1,fun z hz=>by
     rcases Yh.mp hz with e | e
     ·rw[e];exact c
     ·exact a2 z e,a3⟩
   ·exact .inr ⟨a1,a2,fun z hz=>by
     rcases Yh.mp hz with e | e
     ·rw[e];exact c
     ·exact a3 z e⟩
def FD(A B:List Int)(t:Int):Prop:=t∈A/\t∉B/\∀ s,s<t->(s∈A↔s∈B)
theorem FD.uniq{A B:List Int}{t u:Int}(h:FD A B t)(k:FD A B u):t=u:=by
 rcases Y2w t u with c | c | c
 ·exact absurd ((k.2.2 t c).mp h.1) h.2.1
 ·exact c
 ·exact absurd ((h.2.2 u c).mp k.1) k.2.1
theorem ZO2:∀ {A B:List Int},A.Pairwise (· < ·)->B.Pairwise (· < ·)->A.length=B.length->(HT.lexLt A B=true↔∃ t,FD A B t)
 | [],[],_,_,_=>⟨fun h=>(by cases h),fun⟨t,h,_⟩=>(by cases h)⟩
 | x :: A,y :: B,hA,hB,hl=>by
  obtain⟨a1,a2⟩:=Yy01.mp hA;obtain⟨b1,b2⟩:=Yy01.mp hB;have hl':A.length=B.length:=Y1d hl
  show(if x=y then HT.lexLt A B else decide (x<y))=true↔_;by_cases c:x=y
  ·subst c;rw[if_pos rfl,ZO2 a2 b2 hl'];constructor
   ·rintro⟨t,h1,h2,h3⟩;have tx:=a1 t h1
    refine⟨t,Yg _ h1,fun q=>?_,fun s hs=>?_⟩
    ·rcases Yh.mp q with e | e
     ·omega
     ·exact h2 e
    ·rw[Yh,Yh,h3 s hs]
   ·rintro⟨t,h1,h2,h3⟩;have tx:t≠x:=fun e=>h2 (e ▸ Ye)
    have h1':=(Yh.mp h1).resolve_left tx;refine⟨t,h1',fun q=>h2 (Yg _ q),fun s hs=>?_⟩
    have:=h3 s hs
    rw[Yh,Yh]at this;by_cases e:s=x
    ·rw[e];exact⟨fun q=>absurd (a1 x q) (Int.lt_irrefl x),fun q=>absurd (b1 x q) (Int.lt_irrefl x)⟩
    ·exact⟨fun q=>(this.mp (.inr q)).resolve_left e,fun q=>(this.mpr (.inr q)).resolve_left e⟩
  ·rw[if_neg c,YJ];constructor
   ·intro h;refine⟨x,Ye,fun q=>?_,fun s hs=>⟨fun q=>?_,fun q=>?_⟩⟩
    ·rcases Yh.mp q with e | e
     ·exact c e
     ·have:=b1 x e;omega
    ·rcases Yh.mp q with e | e
     ·omega
     ·have:=a1 s e;omega
    ·rcases Yh.mp q with e | e
     ·omega
     ·have:=b1 s e;omega
   ·rintro⟨t,h1,h2,h3⟩;have tx:x<=t:=by
     rcases Yh.mp h1 with e | e
     ·omega
     ·have:=a1 t e;omega
    refine Yf fun hc=>?_;have hyx:y<x:=by omega
    have:=(h3 y (by omega)).mpr Ye
    rcases Yh.mp this with e | e
    ·omega
    ·have:=a1 y e;omega
def Rk(n:Int)(ps:List (Int × Int))(T:List Int)(r:Nat):Prop:=∃ L:List (List Int),L.Nodup/\(∀ l,l∈L↔Zd n ps l/\HT.lexLt l T=true)/\L.length=r
theorem ZD5{α:Type}[DecidableEq α]:∀ {l m:List α},l.Nodup->(∀ x∈l,x∈m)->l.length<=m.length
 | [],_,_,_=>Yj _
 | x :: l,m,hn,hs=>by
  have hx:=hs x Ye;obtain⟨h1,h2⟩:=Yy09.mp hn
  have:=ZD5 (m:=m.erase x) h2 fun y hy=>(Y2c fun e=>h1 (by rw[<- e];exact hy)).mpr (hs y (Yg _ hy))
  rw[Y1Q hx]at this
  have:=Yy21 hx
  rw[YA];omega
theorem Zd8{n:Int}{ps:List (Int × Int)}{T U:List Int}{r q:Nat}(hT:Zd n ps T)(h1:Rk n ps T r)(h2:Rk n ps U q)(h:HT.lexLt T U=true):r<q:=by
 obtain⟨L,a1,a2,a3⟩:=h1;obtain⟨M,b1,b2,b3⟩:=h2
 have:=ZD5 (l:=T :: L) (m:=M) (Yy09.mpr ⟨fun q=>absurd ((a2 T).mp q).2 (by rw[lex_irrefl];decide),a1⟩) fun l hl=>by
  rcases Yh.mp hl with e | e
  ·rw[e];exact(b2 T).mpr ⟨hT,h⟩
  ·obtain⟨c1,c2⟩:=(a2 l).mp e;exact(b2 l).mpr ⟨c1,lex_trans c2 h⟩
 rw[YA]at this;omega
theorem ZN13{n:Int}{ps:List (Int × Int)}{Is Os:List Int}{c:Nat}(h:TC n ps c):∃ d,PC n ps Is Os d:=by obtain⟨L,h1,h2,_⟩:=h;exact⟨_,L.filter fun U=>decide ((∀ z∈Is,z∈U)/\∀ z∈Os,z∉U),h1.filter _,fun U=>by rw[Yi,YJ,h2],rfl⟩
theorem ZM13{m:Nat}{l T O:List Int}{t:Int}{I:List Int}(hl:IsSet m l)(hT:IsSet m T)(tT:t∉T)(hI:∀ z,z∈I↔(z∈T/\z<t)\/z=t)(hO:∀ z,z∈O↔(0<=z/\z<(m:Int))/\z∉T/\z<t):((∀ z∈I,z∈l)/\∀ z∈O,z∉l)↔FD l T t:=by
 constructor
 ·rintro⟨h1,h2⟩;refine⟨h1 t ((hI t).mpr (.inr rfl)),tT,fun s hs=>⟨fun q=>Yf fun no=>?_,fun q=>h1 s ((hI s).mpr (.inl ⟨q,hs⟩))⟩⟩;exact h2 s ((hO s).mpr ⟨hl.all s q,no,hs⟩) q
 ·rintro⟨h1,_,h3⟩;refine⟨fun z hz=>?_,fun z hz q=>?_⟩
  ·rcases(hI z).mp hz with e | e
   ·exact(h3 z e.2).mpr e.1
   ·rw[e];exact h1
  ·obtain⟨_,e1,e2⟩:=(hO z).mp hz;exact e1 ((h3 z e2).mp q)
def BL(n:Int)(ps:List (Int × Int))(I:List Int)(t:Int)(b:Nat):Prop:=∃ L:List (List Int),L.Nodup/\(∀ l,l∈L↔Zd n ps l/\∃ s,s<t/\FD l I s)/\L.length=b
section
variable{n:Int}{ps:List (Int × Int)}{I O:List Int}{i b c:Nat}
theorem Zz712(h:I=[]):BL n ps I 0 0:=by
 refine⟨[],.nil,fun l=>⟨fun h=>(by cases h),fun⟨hl,s,hs,f⟩=>?_⟩,rfl⟩
 have:=hl.1.all s f.1
 omega
theorem Zz214(hI:IsSet i I)(h:BL n ps I (i:Int) b):BL n ps (I++[(i:Int)]) ((i+1:Nat):Int) b:=by
 obtain⟨L,l1,l2,l3⟩:=h;have key:∀ l s,s<(i:Int)->(FD l (I++[(i:Int)]) s↔FD l I s):=fun l s hs=>by
  have m:∀ u,u<(i:Int)->(u∈I++[(i:Int)]↔u∈I):=fun u hu=>by rw[Yy9,Yy1];exact⟨fun q=>q.resolve_right (by omega),.inl⟩
  unfold FD;rw[m s hs];exact⟨fun⟨a,b,d⟩=>⟨a,b,fun u hu=>by rw[d u hu,m u (by omega)]⟩,fun⟨a,b,d⟩=>⟨a,b,fun u hu=>by rw[d u hu,m u (by omega)]⟩⟩
 refine⟨L,l1,fun l=>?_,l3⟩;rw[l2];refine Y1J fun _=>⟨fun⟨s,hs,f⟩=>⟨s,by omega,(key l s hs).mpr f⟩,fun⟨s,hs,f⟩=>?_⟩;have hs2:s≠(i:Int):=fun e=>f.2.1 (by rw[e];exact Yd _ (by simp))
 exact⟨s,by omega,(key l s (by omega)).mp f⟩
theorem Zg13(hm:i<ps.length)(hI:IsSet i I)(hO:∀ z,z∈O↔(0<=z/\z<(i:Int))/\z∉I)(h:BL n ps I (i:Int) b)(hc:PC n ps (I++[(i:Int)]) O c):BL n ps I ((i+1:Nat):Int) (b+c):=by
 obtain⟨L,l1,l2,l3⟩:=h;obtain⟨M,m1,m2,m3⟩:=hc;have hI':IsSet ps.length I:=isSet_iff.mpr ⟨fun z hz=>by have:=hI.all z hz;omega,(isSet_iff.mp hI).2⟩
 have tI:(i:Int)∉I:=fun q=>by have:=hI.all _ q;omega
 have m2':∀ l,l∈M↔Zd n ps l/\FD l I (i:Int):=fun l=>by
  rw[m2];refine Y1J fun hl=>ZM13 (m:=ps.length) hl.1 hI' tI (fun z=>?_) fun z=>?_
  ·rw[Yy9,Yy1];exact⟨fun q=>q.imp_left fun q=>⟨q,(hI.all z q).2⟩,fun q=>q.imp_left fun q=>q.1⟩
  ·rw[hO];constructor
   ·rintro⟨a,b⟩;exact⟨by omega,b,a.2⟩
   ·rintro⟨a,b,d⟩;exact⟨⟨a.1,d⟩,b⟩
 refine⟨L++M,Yy06.mpr ⟨l1,m1,fun x hx y hy e=>?_⟩,fun l=>?_,by rw[Yy8,l3,m3]⟩
 ·rw[<- e]at hy;obtain⟨_,s,hs,f⟩:=(l2 x).mp hx
  have:=f.uniq ((m2' x).mp hy).2
  omega
 ·rw[Yy9,l2,m2'];constructor
  ·rintro(⟨a,s,hs,f⟩ | ⟨a,f⟩)
   ·exact⟨a,s,by omega,f⟩
   ·exact⟨a,_,by omega,f⟩
  ·rintro⟨a,s,hs,f⟩;by_cases e:s=(i:Int)
   ·exact .inr ⟨a,e ▸ f⟩
   ·exact .inl ⟨a,s,by omega,f⟩
theorem Zh13{r:Nat}(hI:IsSet ps.length I)(hO:∀ z,z∈O↔(0<=z/\z<(ps.length:Int))/\z∉I)(h:BL n ps I (ps.length:Int) b)(hc:PC n ps I O c)(hr:r<c):Zd n ps I/\Rk n ps I b/\r=0:=by
 obtain⟨L,l1,l2,l3⟩:=h;obtain⟨M,m1,m2,m3⟩:=hc;have eq:∀ l∈M,l=I:=fun l hl=>by obtain⟨a,q1,q2⟩:=(m2 l).mp hl;refine Zz65 (isSet_iff.mp a.1).2 (isSet_iff.mp hI).2 fun z=>⟨fun hz=>Yf fun no=>q2 z ((hO z).mpr ⟨a.1.all z hz,no⟩) hz,q1 z⟩
 obtain⟨l,hl⟩:∃ l,l∈M:=by
  cases M with
  | nil=>simp at m3;omega
  | cons x M=>exact⟨x,Ye⟩
 have hT:Zd n ps I:=(eq l hl) ▸ ((m2 l).mp hl).1;have hle:M.length<=1:=by
  match M,eq,m1 with
  | [],_,_=>exact Yj _
  | [_],_,_=>exact Yy7 1
  | x :: y :: M,eq,m1 =>
   have h1:=eq x Ye;have h2:=eq y (Yg _ Ye)
   exact absurd (h1.trans h2.symm) ((Yy01.mp m1).1 y Ye)
 refine⟨hT,⟨L,l1,fun l=>?_,l3⟩,by omega⟩;rw[l2];refine Y1J fun hl=>?_;rw[ZO2 (isSet_iff.mp hl.1).2 (isSet_iff.mp hI).2 (by have:=hl.2.1;have:=hT.2.1;omega)];exact⟨fun⟨s,_,f⟩=>⟨s,f⟩,fun⟨s,f⟩=>⟨s,(hl.1.all s f.1).2,f⟩⟩
end
theorem ZF12{n:Int}{ps:List (Int × Int)}{U V:List Int}{r:Nat}(hU:Zd n ps U)(hV:Zd n ps V)(h1:Rk n ps U r)(h2:Rk n ps V r):U=V:=by
 refine Zt11 (Y2x.mpr fun h=>?_) (Y2x.mpr fun h=>?_)
 ·exact Y0z _ (Zd8 hU h1 h2 h)
 ·exact Y0z _ (Zd8 hV h2 h1 h)
theorem Zz014{s rest:TS}{D:Ends}{σ:L2.St}{H:Hp}(P:L2.St->Hp->Prop)(h1:∀ σ' H',P σ' H'->rest D σ' H')(h2:∀ K:L2.St->Hp->Prop,(∀ σ' H',P σ' H'->K σ' H')->s { D with nx:=K } σ H):tSeq s rest D σ H:=h2 _ h1
theorem Zc8{n:Int}{ps:List (Int × Int)}(g:Zu n ps):∃ L:List (List Int),(∀ l,l∈L↔Zd n ps l)/\L.Pairwise lexS:=⟨frs n.toNat ps (n - 1).toNat,fun _=>ZV9 g,(ZI8 _ _).filter _⟩
end My
namespace L2
open PySem PySem.Spec PyProof.Rows
structure CompScopeD (sc0:Scope) (N N':List Str) (o:Nat) (fr:List Nat) (scope:Scope) (xo:Str):Prop where
 kind:scope.kind=.function
 one:(scope.names.filter fun y=>y.2 == .cell)=[(xo,.cell)]
 loc:(scope.names.all fun y=>y.2 != .local || scope.names.lookup y.1 == some .local)=true
 free:(scope.names.all fun y=>y.2 != .free || (y.1 != xo && (sc0.names.lookup y.1 == some .cell || sc0.names.lookup y.1 == some .free)))=true
 len:N'.length=o+fr.length
 sees:((List.range fr.length).all fun j=>match fr[j]? with
  | none=>false
  | some y=>match N[y]? with
   | none=>false
   | some x=>N'[o+j]? == some x && scope.names.lookup x == some .free)=true
end L2
namespace My
open PySem L2
def ev(b:Int):List Int->Int
 | []=>0
 | d :: l=>d+b * ev b l
theorem Zc7(l:List Int)(x:Int):(l++[x]).sum=l.sum+x:=by
 induction l with
 | nil=>show x+0=0+x;omega
 | cons y l ih=>show y+(l++[x]).sum=y+l.sum+x;omega
def cM(M:List Int)(p:Nat)(x:Int):Int:=((M.take p).count x:Nat)
theorem Zn3{n:Nat}:∀ es:List (Nat × Nat),InN n es->∀ i,i<n->0<=mk (pms n es) i/\mk (pms n es) i<=(i:Int)/\mk (pms n es) (mk (pms n es) i).toNat=mk (pms n es) i:=by
 refine Zz51 (fun _ i hi=>?_) fun es e ih h=>?_
 ·have e:mk (pms n []) i=(i:Int):=ZH1 hi;rw[e,Yw];exact⟨by omega,Y0v _,e⟩
 ·obtain⟨h1,h2,h3⟩:=h.snoc;have ih:=ih h1
  intro i hi;rw[ZU5];have hl:=Zi n es
  generalize pms n es=M at *;obtain⟨i1,i2,i3⟩:=ih i hi;obtain⟨a1,a2,a3⟩:=ih e.1 h2;obtain⟨b1,b2,b3⟩:=ih e.2 h3;unfold pm;by_cases c:min (mk M e.1) (mk M e.2)<max (mk M e.1) (mk M e.2)
  ·rw[if_pos c];obtain⟨lo,hlo⟩:∃ lo,lo=min (mk M e.1) (mk M e.2):=⟨_,rfl⟩;obtain⟨hi',hhi⟩:∃ hi',hi'=max (mk M e.1) (mk M e.2):=⟨_,rfl⟩;rw[<- hlo,<- hhi]at c ⊢;have lown:mk M lo.toNat=lo:=by
    rcases Int.le_total (mk M e.1) (mk M e.2) with q | q
    ·rw[hlo,Y2S q];exact a3
    ·rw[hlo,Y2L q];exact b3
   have lb:0<=lo/\lo<(n:Int):=by
    rcases Int.le_total (mk M e.1) (mk M e.2) with q | q
    ·rw[hlo,Y2S q];omega
    ·rw[hlo,Y2L q];omega
   rw[ZS3 _ _ (by omega)];by_cases d:mk M i=hi'
   ·rw[if_pos d,ZS3 _ _ (by omega),lown,if_neg (by omega)];omega
   ·rw[if_neg d,ZS3 _ _ (by omega),i3,if_neg d];exact⟨i1,i2,rfl⟩
  ·rw[if_neg c];exact⟨i1,i2,i3⟩
section
variable{n:Nat}{es:List (Nat × Nat)}(h:InN n es)
include h
theorem ZP3{i:Nat}(hi:i<n):Conn es i (mk (pms n es) i).toNat:=by obtain⟨a,b,c⟩:=Zn3 es h i hi;exact(Zw2 h hi (by omega)).mp c.symm
theorem ZK2{i j:Nat}(hi:i<n)(hj:j<n)(c:Conn es i j):mk (pms n es) i<=(j:Int):=by rw[(Zw2 h hi hj).mpr c];exact(Zn3 es h j hj).2.1
end
theorem ZQ4{es:List (Nat × Nat)}{φ:Nat->Prop}(h:∀ e∈es,(φ e.1↔φ e.2)){i j:Nat}(c:Conn es i j):φ i↔φ j:=by
 induction c with
 | refl i=>exact Iff.rfl
 | edge q=>exact h _ q
 | symm _ ih=>exact ih.symm
 | trans _ _ i1 i2=>exact i1.trans i2
theorem Zc10{es fs:List (Nat × Nat)}(f:Nat->Nat)(h:∀ e∈es,Conn fs (f e.1) (f e.2)){i j:Nat}(c:Conn es i j):Conn fs (f i) (f j):=by
 induction c with
 | refl i=>exact .refl _
 | edge e=>exact h _ e
 | symm _ ih=>exact ih.symm
 | trans _ _ ih1 ih2=>exact ih1.trans ih2
theorem Zq11(f:Int->Int):∀ {l:List Int},l≠[]->∃ m∈l,∀ z∈l,f z<=f m
 | [x],_=>⟨x,by simp,fun z hz=>by rw[Yy1.mp hz];exact Y0v _⟩
 | x :: y :: l,_=>by
  obtain⟨m,hm,q⟩:=Zq11 f (l:=y :: l) (by simp);by_cases c:f m<=f x
  ·exact⟨x,by simp,fun z hz=>by
    rcases Yh.mp hz with r | r
    ·rw[r];exact Y0v _
    ·exact Int.le_trans (q z r) c⟩
  ·exact⟨m,Yg _ hm,fun z hz=>by
    rcases Yh.mp hz with r | r
    ·rw[r];omega
    ·exact q z r⟩
abbrev lnz(ls:List Int)(z:Int):Int:=ls.getD z.toNat 0
def lwS(ls:List Int)(x:Int):List Int:=(rgL ls.length).filter fun z=>decide (lnz ls z<x)
def leS(ls:List Int)(x:Int):List Int:=(rgL ls.length).filter fun z=>decide (lnz ls z<=x)
theorem lwS_mem{ls:List Int}{x z:Int}:z∈lwS ls x↔(0<=z/\z<(ls.length:Int))/\lnz ls z<x:=by unfold lwS;rw[Yi,rgL_mem,YJ]
theorem leS_mem{ls:List Int}{x z:Int}:z∈leS ls x↔(0<=z/\z<(ls.length:Int))/\lnz ls z<=x:=by unfold leS;rw[Yi,rgL_mem,YJ]
theorem ZT3{ls:List Int}{x y:Int}(h:y<x){z:Int}(hz:z∈lwS ls x)(hy:lnz ls z=y):(lwS ls y).length<(lwS ls x).length:=by
 have hn:∀ x,(lwS ls x).Nodup:=fun x=>(Zn1 (Zh4 _)).filter _;have hz2:z∉lwS ls y:=fun c=>by have:=(lwS_mem.mp c).2;omega
 exact ZM1 (l:=z :: lwS ls y) (Yy09.mpr ⟨hz2,hn y⟩) fun w hw=>by
  rcases Yh.mp hw with r | r
  ·exact r ▸ hz
  ·have q:=lwS_mem.mp r;exact lwS_mem.mpr ⟨q.1,by omega⟩
def mA(N:Nat)(ps:List (Int × Int))(ls:List Int)(x:Int):List Int:=pms N (Zz8 ps (lwS ls x))
def mB(N:Nat)(ps:List (Int × Int))(ls:List Int)(x:Int):List Int:=pms N (Zz8 ps (leS ls x))
def spt(N:Nat)(ps:List (Int × Int))(ls:List Int)(x:Int)(i:Nat):Int:=if mk (mA N ps ls x) i=mk (mB N ps ls x) i then 0 else mk (mA N ps ls x) i
def cwT(N:Nat)(ps:List (Int × Int))(ls:List Int):List (Int × Int):=(List.range ps.length).map fun i=>(spt N ps ls (ls.getD i 0) (ps.getD i (0,0)).1.toNat,spt N ps ls (ls.getD i 0) (ps.getD i (0,0)).2.toNat)
theorem ZM4(N:Nat)(ps:List (Int × Int))(ls:List Int):(cwT N ps ls).length=ps.length:=by unfold cwT;rw[Yb,YX]
theorem Zz910{N:Nat}{ps:List (Int × Int)}{ls:List Int}{z:Int}(h0:0<=z)(h1:z<(ps.length:Int)):Zw (cwT N ps ls) z=((spt N ps ls (lnz ls z) (Zw ps z).1).toNat,(spt N ps ls (lnz ls z) (Zw ps z).2).toNat):=by
 have e:(cwT N ps ls).getD z.toNat (0,0)=(spt N ps ls (lnz ls z) (Zw ps z).1,spt N ps ls (lnz ls z) (Zw ps z).2):=by unfold cwT;rw[Yy3,Ym,Y0k (by omega)];rfl
 unfold Zw at *;rw[e]
section
variable{n:Int}{ps:List (Int × Int)}{ls T:List Int}(g:Zu n ps)(hl:ls.length=ps.length)
include g hl
theorem inA(x:Int):InN n.toNat (Zz8 ps (lwS ls x)):=ZK g fun z hz=>by have:=(lwS_mem.mp hz).1;omega
theorem inB(x:Int):InN n.toNat (Zz8 ps (leS ls x)):=ZK g fun z hz=>by have:=(leS_mem.mp hz).1;omega
theorem ownA(x:Int){i:Nat}(hi:i<n.toNat):0<=mk (mA n.toNat ps ls x) i/\mk (mA n.toNat ps ls x) i<=(i:Int)/\mk (mA n.toNat ps ls x) (mk (mA n.toNat ps ls x) i).toNat=mk (mA n.toNat ps ls x) i:=Zn3 _ (inA g hl x) i hi
theorem ownB(x:Int){i:Nat}(hi:i<n.toNat):0<=mk (mB n.toNat ps ls x) i/\mk (mB n.toNat ps ls x) i<=(i:Int)/\mk (mB n.toNat ps ls x) (mk (mB n.toNat ps ls x) i).toNat=mk (mB n.toNat ps ls x) i:=Zn3 _ (inB g hl x) i hi
theorem Zm12(x:Int){i:Nat}(hi:i<n.toNat):Conn (Zz8 ps (lwS ls x)) i (mk (mA n.toNat ps ls x) i).toNat:=ZP3 (inA g hl x) hi
theorem Ze13(x:Int){i:Nat}(hi:i<n.toNat):Conn (Zz8 ps (leS ls x)) i (mk (mB n.toNat ps ls x) i).toNat:=ZP3 (inB g hl x) hi
theorem iffA(x:Int){i j:Nat}(hi:i<n.toNat)(hj:j<n.toNat):mk (mA n.toNat ps ls x) i=mk (mA n.toNat ps ls x) j↔Conn (Zz8 ps (lwS ls x)) i j:=Zw2 (inA g hl x) hi hj
theorem iffB(x:Int){i j:Nat}(hi:i<n.toNat)(hj:j<n.toNat):mk (mB n.toNat ps ls x) i=mk (mB n.toNat ps ls x) j↔Conn (Zz8 ps (leS ls x)) i j:=Zw2 (inB g hl x) hi hj
theorem ZW12(x:Int){i j:Nat}(hi:i<n.toNat)(hj:j<n.toNat)(c:Conn (Zz8 ps (lwS ls x)) i j):mk (mA n.toNat ps ls x) i<=(j:Int):=ZK2 (inA g hl x) hi hj c
theorem ZG9(x:Int){i j:Nat}(hi:i<n.toNat)(hj:j<n.toNat)(c:Conn (Zz8 ps (leS ls x)) i j):mk (mB n.toNat ps ls x) i<=(j:Int):=ZK2 (inB g hl x) hi hj c
theorem ZU8(x:Int){i j:Nat}(c:Conn (Zz8 ps (lwS ls x)) i j):Conn (Zz8 ps (leS ls x)) i j:=c.mono (Zx fun z hz=>by have:=lwS_mem.mp hz;exact leS_mem.mpr ⟨this.1,by omega⟩)
theorem Zw12{x y:Int}(h:y<x){i j:Nat}(c:Conn (Zz8 ps (leS ls y)) i j):Conn (Zz8 ps (lwS ls x)) i j:=c.mono (Zx fun z hz=>by have:=leS_mem.mp hz;exact lwS_mem.mpr ⟨this.1,by omega⟩)
theorem ZL7{x y:Int}{v:Nat}(hv:v<n.toNat)(a1:mk (mA n.toNat ps ls x) v=v)(b1:mk (mB n.toNat ps ls x) v≠v)(a2:mk (mA n.toNat ps ls y) v=v)(b2:mk (mB n.toNat ps ls y) v≠v):x=y:=by
 have key:∀ x y:Int,y<x->mk (mA n.toNat ps ls x) v=v->mk (mB n.toNat ps ls y) v≠v->False:=fun x y h a b=>by
  obtain⟨o1,o2,_⟩:=ownB g hl y hv
  have:=ZW12 g hl x hv (by omega) (Zw12 g hl h (Ze13 g hl y hv))
  omega
 rcases Y2w x y with c | c | c
 ·exact(key y x c a2 b1).elim
 ·exact c
 ·exact(key x y c a1 b2).elim
theorem Zf7{x:Int}{i:Nat}(hi:i<n.toNat):0<=spt n.toNat ps ls x i/\spt n.toNat ps ls x i<n/\(spt n.toNat ps ls x i≠0->spt n.toNat ps ls x i=mk (mA n.toNat ps ls x) i/\mk (mA n.toNat ps ls x) (spt n.toNat ps ls x i).toNat=spt n.toNat ps ls x i/\mk (mB n.toNat ps ls x) (spt n.toNat ps ls x i).toNat≠spt n.toNat ps ls x i):=by
 obtain⟨o1,o2,o3⟩:=ownA g hl x hi;unfold spt;by_cases c:mk (mA n.toNat ps ls x) i=mk (mB n.toNat ps ls x) i
 ·rw[if_pos c];exact⟨Y0v _,by omega,fun h=>absurd rfl h⟩
 ·rw[if_neg c];refine⟨o1,by omega,fun _=>⟨rfl,o3,fun e=>c ?_⟩⟩;rw[<- e];exact(iffB g hl x (by omega) hi).mpr (ZU8 g hl x (Zm12 g hl x hi)).symm
theorem ZK4:Zu n (cwT n.toNat ps ls):=by
 obtain⟨g1,g2,g3,g4⟩:=id g;refine⟨g1,g2,by rw[ZM4];exact g3,fun p hp=>?_⟩;unfold cwT at hp;obtain⟨i,hi,rfl⟩:=Yr.mp hp;have hi:=YD.mp hi
 have he:=Zk1 (z:=(i:Int)) g (by omega) (by omega);unfold Zw at he;rw[Yw]at he;have h1:=Zf7 g hl (x:=ls.getD i 0) he.1
 have h2:=Zf7 g hl (x:=ls.getD i 0) he.2;exact⟨h1.1,h1.2.1,h2.1,h2.2.1⟩
theorem ZP6(hT:Zd n (cwT n.toNat ps ls) T):∀(k:Nat) (x:Int),(lwS ls x).length=k->∀ a,a<n.toNat->Conn (Zz8 ps (T.filter fun z=>decide (lnz ls z<=x))) a (mk (mB n.toNat ps ls x) a).toNat:=by
 intro k
 induction k using Nat.strongRecOn with
 | ind k ih =>
  intro x hk;obtain⟨t1,t2,t3⟩:=id hT;rw[ZM4]at t1;have tm:∀ {y z:Int},z∈T.filter (fun z=>decide (lnz ls z<=y))↔z∈T/\lnz ls z<=y:=by intro y z;rw[Yi,YJ]
  have low:∀ {i j:Nat},Conn (Zz8 ps (lwS ls x)) i j->Conn (Zz8 ps (T.filter fun z=>decide (lnz ls z<=x))) i j:=fun c=>c.lift fun e he=>by
   obtain⟨z,hz,rfl⟩:=Yr.mp he;have q:=lwS_mem.mp hz
   have hz2:z∈leS ls (lnz ls z):=leS_mem.mpr ⟨q.1,Y0v _⟩;have ee:=Zk1 (z:=z) g q.1.1 (by omega)
   have i1:=ih _ (by rw[<- hk];exact ZT3 q.2 hz rfl) (lnz ls z) rfl _ ee.1;have i2:=ih _ (by rw[<- hk];exact ZT3 q.2 hz rfl) (lnz ls z) rfl _ ee.2
   have e1:mk (mB n.toNat ps ls (lnz ls z)) (Zw ps z).1=mk (mB n.toNat ps ls (lnz ls z)) (Zw ps z).2:=(iffB g hl _ ee.1 ee.2).mpr (.edge (Yr.mpr ⟨z,hz2,rfl⟩));rw[e1]at i1;exact(i1.trans i2.symm).mono (Zx fun w hw=>by have:=tm.mp hw;exact tm.mpr ⟨this.1,by omega⟩)
  have atA:∀ a,a<n.toNat->Conn (Zz8 ps (T.filter fun z=>decide (lnz ls z<=x))) a (mk (mA n.toNat ps ls x) a).toNat:=fun a ha=>low (Zm12 g hl x ha);have bA:∀ a,a<n.toNat->mk (mB n.toNat ps ls x) (mk (mA n.toNat ps ls x) a).toNat=mk (mB n.toNat ps ls x) a:=fun a ha=>by have o:=ownA g hl x ha;exact(iffB g hl x (by omega) ha).mpr (ZU8 g hl x (Zm12 g hl x ha)).symm
  obtain⟨φ,hφ⟩:∃ φ:Nat->Prop,φ=fun w=>w<n.toNat->mk (mA n.toNat ps ls x) w=w->mk (mB n.toNat ps ls x) w≠w->Conn (Zz8 ps (T.filter fun z=>decide (lnz ls z<=x))) w (mk (mB n.toNat ps ls x) w).toNat:=⟨_,rfl⟩;have phi0:φ 0:=by
   rw[hφ];intro h1 _ h3
   have:=ownB g hl x h1
   exact absurd (by omega) h3
  have other:∀(y:Int) (a:Nat),a<n.toNat->y≠x->φ (spt n.toNat ps ls y a).toNat:=fun y a ha hy=>by
   obtain⟨q0,q1,q2⟩:=Zf7 g hl (x:=y) ha;by_cases c:spt n.toNat ps ls y a=0
   ·rw[c];exact phi0
   ·obtain⟨_,q3,q4⟩:=q2 c;rw[hφ];intro h1 h2 h3;exact absurd (ZL7 g hl (v:=(spt n.toNat ps ls y a).toNat) (by omega) (by rw[q3];omega) (fun e=>q4 (by rw[e];omega)) h2 h3) hy
  have own:∀ a,a<n.toNat->(φ (spt n.toNat ps ls x a).toNat↔Conn (Zz8 ps (T.filter fun z=>decide (lnz ls z<=x))) a (mk (mB n.toNat ps ls x) a).toNat):=fun a ha=>by
   by_cases c:mk (mA n.toNat ps ls x) a=mk (mB n.toNat ps ls x) a
   ·have e:spt n.toNat ps ls x a=0:=by unfold spt;rw[if_pos c]
    rw[e];refine⟨fun _=>?_,fun _=>phi0⟩
    have:=atA a ha
    rw[c]at this;exact this
   ·have e:spt n.toNat ps ls x a=mk (mA n.toNat ps ls x) a:=by unfold spt;rw[if_neg c]
    obtain⟨o1,o2,o3⟩:=ownA g hl x ha;have ba:=bA a ha
    rw[e,hφ];show(_->_->_->Conn _ _ _)↔_
    rw[ba];constructor
    ·intro h;exact(atA a ha).trans (h (by omega) (by rw[o3];omega) (fun e2=>c (by rw[e2];omega)))
    ·intro h _ _ _;exact(atA a ha).symm.trans h
  have all:∀ w,w<n.toNat->φ w:=fun w hw=>by
   refine(ZQ4 (φ:=φ) (fun e he=>?_) (t3 0 w (by omega) hw)).mp phi0;obtain⟨z,hz,rfl⟩:=Yr.mp he;have zb:=t1.all z hz
   have ee:=Zk1 (z:=z) g zb.1 zb.2;show φ (Zw (cwT n.toNat ps ls) z).1↔φ (Zw (cwT n.toNat ps ls) z).2
   rw[Zz910 zb.1 zb.2];show φ (spt _ _ _ _ _).toNat↔φ (spt _ _ _ _ _).toNat
   by_cases c:lnz ls z=x
   ·rw[c,own _ ee.1,own _ ee.2];have ce:Conn (Zz8 ps (T.filter fun z=>decide (lnz ls z<=x))) (Zw ps z).1 (Zw ps z).2:=.edge (Yr.mpr ⟨z,tm.mpr ⟨hz,by omega⟩,rfl⟩)
    have e1:mk (mB n.toNat ps ls x) (Zw ps z).1=mk (mB n.toNat ps ls x) (Zw ps z).2:=(iffB g hl _ ee.1 ee.2).mpr (.edge (Yr.mpr ⟨z,leS_mem.mpr ⟨⟨zb.1,by omega⟩,by omega⟩,rfl⟩));rw[e1];exact⟨fun h=>ce.symm.trans h,fun h=>ce.trans h⟩
   ·exact⟨fun _=>other _ _ ee.2 c,fun _=>other _ _ ee.1 c⟩
  intro a ha;obtain⟨o1,o2,o3⟩:=ownA g hl x ha;have ba:=bA a ha
  have c1:=atA a ha;by_cases c:mk (mB n.toNat ps ls x) (mk (mA n.toNat ps ls x) a).toNat=mk (mA n.toNat ps ls x) a
  ·rw[<- ba,c];exact c1
  ·have:=all (mk (mA n.toNat ps ls x) a).toNat (by omega)
   rw[hφ]at this
   have:=this (by omega) (by rw[o3];omega) (fun e=>c (by rw[e];omega))
   rw[ba]at this;exact c1.trans this
end
def LvT(n:Int)(ps:List (Int × Int))(ls T:List Int):Prop:=∀(x:Int) (i j:Nat),i<n.toNat->j<n.toNat->Conn (Zz8 ps (leS ls x)) i j->Conn (Zz8 ps (T.filter fun z=>decide (lnz ls z<=x))) i j
def NoG(n:Int)(ps:List (Int × Int))(ls T:List Int):Prop:=∀ o z,exg n ps T o z->lnz ls o<=lnz ls z
theorem Zs11(ls:List Int):∃ U:Int,∀ z:Int,lnz ls z<=U:=by
 have h:∀ l:List Int,∃ U:Int,∀ i:Nat,l.getD i 0<=U:=by
  intro l
  induction l with
  | nil=>exact⟨0,fun i=>by simp⟩
  | cons x l ih =>
   obtain⟨U,hU⟩:=ih;refine⟨max x U,fun i=>?_⟩;cases i with
   | zero=>show x<=_;omega
   | succ i=>have:=hU i;show l.getD i 0<=_;omega
 obtain⟨U,hU⟩:=h ls;exact⟨U,fun z=>hU z.toNat⟩
section
variable{n:Int}{ps:List (Int × Int)}{ls T:List Int}(g:Zu n ps)(hl:ls.length=ps.length)
include g hl
theorem ZY13(hT:Zd n (cwT n.toNat ps ls) T):LvT n ps ls T:=fun x i j hi hj c=>by
 have h1:=ZP6 g hl hT _ x rfl i hi;have h2:=ZP6 g hl hT _ x rfl j hj
 rw[(iffB g hl x hi hj).mpr c]at h1;exact h1.trans h2.symm
theorem Zw13(hT:Zd n (cwT n.toNat ps ls) T):Zd n ps T:=by
 obtain⟨t1,t2,t3⟩:=id hT;rw[ZM4]at t1;obtain⟨U,hU⟩:=Zs11 ls;have zero:∀ a,a<n.toNat->mk (mB n.toNat ps ls U) a=0:=fun a ha=>by
  obtain⟨o1,o2,o3⟩:=ownB g hl U ha;refine Yf fun no=>?_;obtain⟨v,hv⟩:∃ v:Nat,v=(mk (mB n.toNat ps ls U) a).toNat:=⟨_,rfl⟩;have v0:v≠0:=by omega
  have vn:v<n.toNat:=by omega
  have ov:mk (mB n.toNat ps ls U) v=(v:Int):=by rw[hv,o3];omega
  have st:=ZQ4 (φ:=fun w=>w≠v) (fun e he=>by
   obtain⟨z,hz,rfl⟩:=Yr.mp he;have zb:=t1.all z hz
   have ee:=Zk1 (z:=z) g zb.1 zb.2;show(Zw (cwT n.toNat ps ls) z).1≠v↔(Zw (cwT n.toNat ps ls) z).2≠v
   rw[Zz910 zb.1 zb.2];have key:∀ c,c<n.toNat->(spt n.toNat ps ls (lnz ls z) c).toNat≠v:=fun c hc e=>by
    obtain⟨q0,q1,q2⟩:=Zf7 g hl (x:=lnz ls z) hc;obtain⟨_,q3,q4⟩:=q2 (by omega);rw[e]at q3 q4;have ov2:=ownB g hl (lnz ls z) vn
    have cb:=Ze13 g hl (lnz ls z) vn;have cu:Conn (Zz8 ps (leS ls U)) v (mk (mB n.toNat ps ls (lnz ls z)) v).toNat:=cb.mono (Zx fun y hy=>by have:=leS_mem.mp hy;exact leS_mem.mpr ⟨this.1,hU y⟩)
    have:=ZG9 g hl U vn (by omega) cu
    omega
   exact⟨fun _=>key _ ee.2,fun _=>key _ ee.1⟩) (t3 0 v (by omega) vn)
  exact(st.mp (Yy03 v0)) rfl
 refine⟨t1,t2,?_⟩;have key:∀ a,a<n.toNat->Conn (Zz8 ps T) a 0:=fun a ha=>by have h1:=ZP6 g hl hT _ U rfl a ha;rw[zero a ha]at h1;exact h1.mono (Zx fun z hz=>(Yi.mp hz).1)
 exact fun i j hi hj=>(key i hi).trans (key j hj).symm
theorem ZF9{v:Nat}(hv:v<n.toNat):∀(k:Nat) (x:Int),(lwS ls x).length=k->mk (mB n.toNat ps ls x) v≠v->∃ y,mk (mA n.toNat ps ls y) v=v/\mk (mB n.toNat ps ls y) v≠v:=by
 intro k
 induction k using Nat.strongRecOn with
 | ind k ih =>
  intro x hk hb;by_cases c:mk (mA n.toNat ps ls x) v=v
  ·exact⟨x,c,hb⟩
  ·have ne:lwS ls x≠[]:=fun e=>c (by unfold mA;rw[e];exact ZH1 hv)
   obtain⟨m,hm,q⟩:=Zq11 (lnz ls) ne;have hm2:=lwS_mem.mp hm
   have e:leS ls (lnz ls m)=lwS ls x:=by
    unfold leS lwS;refine Y1b fun z hz=>?_;rw[Y1X];constructor
    ·intro h;omega
    ·intro h;exact q z (lwS_mem.mpr ⟨rgL_mem.mp hz,h⟩)
   refine ih _ (by rw[<- hk];exact ZT3 hm2.2 hm rfl) (lnz ls m) rfl ?_;have e2:mB n.toNat ps ls (lnz ls m)=mA n.toNat ps ls x:=by unfold mB mA;rw[e]
   rw[e2];exact c
theorem ZX13(hT:Zd n ps T)(hv:LvT n ps ls T):Zd n (cwT n.toNat ps ls) T:=by
 obtain⟨t1,t2,t3⟩:=id hT;obtain⟨U,hU⟩:=Zs11 ls;refine⟨by rw[ZM4];exact t1,t2,?_⟩;have tm:∀ {y z:Int},z∈T.filter (fun z=>decide (lnz ls z<=y))↔z∈T/\lnz ls z<=y:=by intro y z;rw[Yi,YJ]
 have key:∀ v,v<n.toNat->Conn (Zz8 (cwT n.toNat ps ls) T) v 0:=fun v hvn=>by
  by_cases v0:v=0
  ·rw[v0];exact .refl _
  have bU:mk (mB n.toNat ps ls U) v≠v:=by
   have cu:Conn (Zz8 ps (leS ls U)) v 0:=(t3 v 0 hvn (by omega)).mono (Zx fun y hy=>by have:=t1.all y hy;exact leS_mem.mpr ⟨⟨this.1,by omega⟩,hU y⟩)
   have:=ZG9 g hl U hvn (by omega) cu
   omega
  obtain⟨y,ya,yb⟩:=ZF9 g hl hvn _ U rfl bU;obtain⟨b1,b2,b3⟩:=ownB g hl y hvn;obtain⟨u,hu⟩:∃ u:Nat,u=(mk (mB n.toNat ps ls y) v).toNat:=⟨_,rfl⟩;have un:u<n.toNat:=by omega
  have bu:mk (mB n.toNat ps ls y) u=(u:Int):=by rw[hu,b3];omega
  have cvu:Conn (Zz8 ps (leS ls y)) v u:=by rw[hu];exact Ze13 g hl y hvn
  have cT:=hv y v u hvn un cvu;have mp:=Zc10 (fs:=Zz8 (cwT n.toNat ps ls) T) (fun i=>(spt n.toNat ps ls y i).toNat) (fun e he=>by
   obtain⟨z,hz,rfl⟩:=Yr.mp he;obtain⟨zT,zy⟩:=tm.mp hz;have zb:=t1.all z zT
   have ee:=Zk1 (z:=z) g zb.1 zb.2;show Conn _ (spt n.toNat ps ls y (Zw ps z).1).toNat (spt n.toNat ps ls y (Zw ps z).2).toNat
   by_cases c:lnz ls z=y
   ·have e:=Zz910 (N:=n.toNat) (ls:=ls) zb.1 zb.2;rw[c]at e
    have:(Zw (cwT n.toNat ps ls) z)∈Zz8 (cwT n.toNat ps ls) T:=Yr.mpr ⟨z,zT,rfl⟩
    rw[e]at this;exact .edge this
   ·have z1:z∈lwS ls y:=lwS_mem.mpr ⟨⟨zb.1,by omega⟩,by omega⟩;have z2:z∈leS ls y:=leS_mem.mpr ⟨⟨zb.1,by omega⟩,zy⟩
    have ea:=(iffA g hl y ee.1 ee.2).mpr (.edge (Yr.mpr ⟨z,z1,rfl⟩));have eb:=(iffB g hl y ee.1 ee.2).mpr (.edge (Yr.mpr ⟨z,z2,rfl⟩))
    have e:spt n.toNat ps ls y (Zw ps z).1=spt n.toNat ps ls y (Zw ps z).2:=by unfold spt;rw[ea,eb]
    rw[e];exact .refl _) cT
  have sv:spt n.toNat ps ls y v=(v:Int):=by unfold spt;rw[if_neg (by omega),ya]
  have su:spt n.toNat ps ls y u=0:=by
   obtain⟨a1,a2,a3⟩:=ownA g hl y un;have ca:=Zm12 g hl y un
   have:=ZG9 g hl y (i:=(mk (mA n.toNat ps ls y) u).toNat) (j:=(mk (mA n.toNat ps ls y) u).toNat) (by omega) (by omega) (.refl _)
   have e1:mk (mB n.toNat ps ls y) (mk (mA n.toNat ps ls y) u).toNat=mk (mB n.toNat ps ls y) u:=(iffB g hl y (by omega) un).mpr (ZU8 g hl y ca).symm;unfold spt;rw[if_pos (by omega)]
  have mp:Conn (Zz8 (cwT n.toNat ps ls) T) (spt n.toNat ps ls y v).toNat (spt n.toNat ps ls y u).toNat:=mp;rw[sv,su]at mp;exact mp
 exact fun i j hi hj=>(key i hi).trans (key j hj).symm
omit hl in
theorem ZP13(hl:ls.length=ps.length)(hT:Zd n ps T)(hg:NoG n ps ls T):LvT n ps ls T:=fun x i j _ _ c=>c.lift fun e he=>by
 obtain⟨z,hz,rfl⟩:=Yr.mp he;obtain⟨zb,zx⟩:=leS_mem.mp hz;show Conn _ (Zw ps z).1 (Zw ps z).2
 by_cases zT:z∈T
 ·exact .edge (Yr.mpr ⟨z,Yi.mpr ⟨zT,Yl zx⟩,rfl⟩)
 ·refine(Zg4 g hT zb.1 (by omega)).mono (Zx fun y hy=>?_);obtain⟨yT,yc⟩:=ringA_mem.mp hy
  have:=hg y z ⟨yT,fun e=>zT (e ▸ yT),yc⟩
  exact Yi.mpr ⟨yT,Yl (by omega)⟩
theorem Zr11(hT:Zd n ps T)(hv:LvT n ps ls T):NoG n ps ls T:=fun o z he=>by
 refine Yf fun no=>?_;obtain⟨h1,h2,h3⟩:=he;obtain⟨z0,z1⟩:=Zx1 h3;have ee:=Zk1 (z:=z) g z0 z1
 refine(Zz11 g hT z0 z1).mp h3 ?_;refine(hv (lnz ls z) _ _ ee.1 ee.2 (.edge (Yr.mpr ⟨z,leS_mem.mpr ⟨⟨z0,by omega⟩,Y0v _⟩,rfl⟩))).mono (Zx fun y hy=>?_);obtain⟨yT,yl⟩:=Yi.mp hy;have yl:=Yt yl
 exact wo_mem.mpr ⟨yT,fun e=>no (by rw[<- e];exact yl)⟩
theorem Zz212:Zd n (cwT n.toNat ps ls) T↔Zd n ps T/\NoG n ps ls T :=
 ⟨fun h=>⟨Zw13 g hl h,Zr11 g hl (Zw13 g hl h) (ZY13 g hl h)⟩,fun h=>ZX13 g hl h.1 (ZP13 g hl h.1 h.2)⟩
end
theorem Zz211{n:Nat}{es fs:List (Nat × Nat)}(h1:InN n es)(h2:InN n fs)(h:∀ i j,Conn es i j↔Conn fs i j):pms n es=pms n fs:=by
 have key:∀ {es fs:List (Nat × Nat)},InN n es->InN n fs->(∀ i j,Conn es i j↔Conn fs i j)->∀ i,i<n->mk (pms n es) i<=mk (pms n fs) i:=fun {es fs} h1 h2 h i hi=>by
  obtain⟨o1,o2,_⟩:=Zn3 fs h2 i hi
  have:=ZK2 h1 hi (by omega) ((h i _).mpr (ZP3 h2 hi))
  omega
 refine Y0H fun i=>?_;by_cases c:i<n
 ·rw[ZO1 (by rw[Zi];exact c),ZO1 (by rw[Zi];exact c)];exact Yy04 some (Int.le_antisymm (key h1 h2 h i c) (key h2 h1 (fun i j=>(h i j).symm) i c))
 ·rw[QP (by rw[Zi];omega),QP (by rw[Zi];omega)]
def lvl(ls:List Int)(x:Int)(i:Nat):List Int:=(rgL i).filter fun z=>decide (lnz ls z=x)
theorem Ze6(ls:List Int)(x:Int)(i:Nat):lvl ls x (i+1)=lvl ls x i++(if ls.getD i 0=x then [(i:Int)] else []):=by
 unfold lvl rgL;rw[Y0W,YE,Yy02];congr 1;have e:lnz ls (i:Int)=ls.getD i 0:=by unfold lnz;rw[Yw]
 by_cases c:ls.getD i 0=x
 ·rw[if_pos c];exact Y0o (by simp only [YJ];rw[e];exact c)
 ·rw[if_neg c];exact Y0p (by simp only [YJ];rw[e];exact c)
theorem lvl_mem{ls:List Int}{x z:Int}{i:Nat}:z∈lvl ls x i↔(0<=z/\z<(i:Int))/\lnz ls z=x:=by unfold lvl;rw[Yi,rgL_mem,YJ]
theorem Zj8(ls:List Int)(x:Int)(i:Nat):IsSet i (lvl ls x i):=isSet_iff.mpr ⟨fun z hz=>(lvl_mem.mp hz).1,(Zh4 i).filter _⟩
def cwP(N:Nat)(ps:List (Int × Int))(ls:List Int)(i:Nat):Int × Int:=(spt N ps ls (ls.getD i 0) (ps.getD i (0,0)).1.toNat,spt N ps ls (ls.getD i 0) (ps.getD i (0,0)).2.toNat)
def mdT(N:Nat)(ps:List (Int × Int))(ls:List Int)(p:Nat->Prop)[DecidablePred p]:List (Int × Int):=(List.range ps.length).map fun i=>if p i then cwP N ps ls i else ps.getD i (0,0)
theorem Zo11(N:Nat)(ps:List (Int × Int))(ls:List Int)(p:Nat->Prop)[DecidablePred p]:(mdT N ps ls p).length=ps.length:=by unfold mdT;rw[Yb,YX]
theorem Zn4{N:Nat}{ps:List (Int × Int)}{ls:List Int}{p q:Nat->Prop}[DecidablePred p][DecidablePred q](h:∀ i,i<ps.length->(p i↔q i)):mdT N ps ls p=mdT N ps ls q:=by
 unfold mdT;refine YL fun i hi=>?_
 have:=h i (YD.mp hi)
 by_cases c:p i
 ·rw[if_pos c,if_pos (this.mp c)]
 ·rw[if_neg c,if_neg fun d=>c (this.mpr d)]
theorem Zw9{N:Nat}{ps:List (Int × Int)}{ls:List Int}{p:Nat->Prop}[DecidablePred p](h:∀ i,i<ps.length->¬ p i):mdT N ps ls p=ps:=by
 unfold mdT;refine Y0H fun i=>?_;rw[Ym];by_cases c:i<ps.length
 ·rw[Y0k c,Yy0 c];show some (if p i then _ else ps.getD i (0,0))=_
  rw[if_neg (h i c),Yy3,Yy0 c];rfl
 ·rw[QP (by rw[YX];omega),QP (by omega)];rfl
theorem Zp11{N:Nat}{ps:List (Int × Int)}{ls:List Int}{p:Nat->Prop}[DecidablePred p](h:∀ i,i<ps.length->p i):mdT N ps ls p=cwT N ps ls:=by unfold mdT cwT;refine YL fun i hi=>?_;rw[if_pos (h i (YD.mp hi))];rfl
theorem Zn11{N:Nat}{ps:List (Int × Int)}{ls:List Int}{p q:Nat->Prop}[DecidablePred p][DecidablePred q]{k:Nat}(h:∀ i,i<ps.length->(q i↔p i\/i=k)):(mdT N ps ls p).set k (cwP N ps ls k)=mdT N ps ls q:=by
 unfold mdT;refine Y0H fun i=>?_;rw[Ym];by_cases c:i<ps.length
 ·have hq:=h i c;rw[Y0k c];by_cases d:k=i
  ·rw[d,Yy22 (by rw[Yb,YX];exact c)];show _=some (if q i then _ else _)
   rw[if_pos (hq.mpr (.inr d.symm))]
  ·rw[Y2d d,Ym,Y0k c];show some (if p i then _ else _)=some (if q i then _ else _)
   by_cases e:p i
   ·rw[if_pos e,if_pos (hq.mpr (.inl e))]
   ·rw[if_neg e,if_neg fun f=>(hq.mp f).elim e fun g=>d g.symm]
 ·rw[QP (by rw[Y0A,Yb,YX];omega),QP (by rw[YX];omega)];rfl
section
variable{n:Int}{ps:List (Int × Int)}{ls Ls S:List Int}{j:Nat}{x:Int}(g:Zu n ps)(hl:ls.length=ps.length)(hLa:Ls.Pairwise (· < ·))(hLm:∀ z,z∈Ls↔z∈ls)(hx:Ls[j]?=some x)
include hLa hx
theorem Zz38{y:Int}(hy:y∈Ls):y∈Ls.take j↔y<x:=by
 obtain⟨hj,e⟩:=Yy2.mp hx;constructor
 ·intro h;obtain⟨i,hi,ei⟩:=Y2b.mp h;rw[Yz]at hi;rw[List.getElem_take]at ei;rw[<- ei,<- e];exact Yy00.mp hLa i j (by omega) hj (by omega)
 ·intro h;obtain⟨i,hi,ei⟩:=Y2b.mp hy
  have:i<j:=Yf fun no=>by
   rcases Nat.lt_or_eq_of_le (Y1z no) with c | c
   ·have:=Yy00.mp hLa j i hj hi c
    omega
   ·subst c;omega
  exact Y2b.mpr ⟨i,by rw[Yz];omega,by rw[List.getElem_take];exact ei⟩
include g hl hLm
theorem Yz9(hS:∀ z,z∈S↔(0<=z/\z<(ps.length:Int))/\lnz ls z∈Ls.take j):pms n.toNat (Zz8 ps S)=mA n.toNat ps ls x:=by refine Zz211 (ZK g fun z hz=>((hS z).mp hz).1) (inA g hl x) fun a b=>ZX fun z=>?_;rw[hS,lwS_mem,hl];refine Y1J fun zb=>?_;refine Zz38 hLa hx ((hLm _).mpr ?_);unfold lnz;rw[Yy3,Yy0 (show z.toNat<ls.length by omega)];exact Y0j _
theorem Zx9(hS:∀ z,z∈S↔(0<=z/\z<(ps.length:Int))/\lnz ls z∈Ls.take j):pmf (pms n.toNat (Zz8 ps S)) (Zz8 ps (lvl ls x ps.length))=pms n.toNat (Zz8 ps (S++lvl ls x ps.length))/\pms n.toNat (Zz8 ps (S++lvl ls x ps.length))=mB n.toNat ps ls x/\∀ z,z∈S++lvl ls x ps.length↔(0<=z/\z<(ps.length:Int))/\lnz ls z∈Ls.take (j+1):=by
 have m1:∀ z,z∈S++lvl ls x ps.length↔(0<=z/\z<(ps.length:Int))/\lnz ls z∈Ls.take (j+1):=fun z=>by
  rw[Yy9,hS,lvl_mem,YO,hx];show _↔_/\lnz ls z∈Ls.take j++[x]
  rw[Yy9,Yy1];constructor
  ·rintro(⟨a,b⟩ | ⟨a,b⟩)
   ·exact⟨a,.inl b⟩
   ·exact⟨a,.inr b⟩
  ·rintro⟨a,b | b⟩
   ·exact .inl ⟨a,b⟩
   ·exact .inr ⟨a,b⟩
 refine⟨?_,?_,m1⟩
 ·unfold pmf pms Zz8;rw[YE,Y1s]
 ·refine Zz211 (ZK g fun z hz=>((m1 z).mp hz).1) (inB g hl x) fun a b=>ZX fun z=>?_;rw[Yy9,hS,lvl_mem,leS_mem,hl];have t:(0<=z/\z<(ps.length:Int))->(lnz ls z∈Ls.take j↔lnz ls z<x):=fun zb=>Zz38 hLa hx ((hLm _).mpr (by unfold lnz;rw[Yy3,Yy0 (show z.toNat<ls.length by omega)];exact Y0j _))
  constructor
  ·rintro(⟨a,b⟩ | ⟨a,b⟩)
   ·exact⟨a,Int.le_of_lt ((t a).mp b)⟩
   ·exact⟨a,Int.le_of_eq b⟩
  ·rintro⟨a,b⟩;rcases Int.lt_or_eq_of_le b with c | c
   ·exact .inl ⟨a,(t a).mpr c⟩
   ·exact .inr ⟨a,c⟩
end
def sumL(ls T:List Int):Int:=(T.map (lnz ls)).sum
theorem Ze4{ls a b:List Int}(h:a.Perm b):sumL ls a=sumL ls b:=by
 unfold sumL
 induction h with
 | nil=>rfl
 | cons x _ ih=>rw[YI,YI,Yy05,Yy05,ih]
 | swap x y l=>rw[YI,YI,YI,YI,Yy05,Yy05,Yy05,Yy05];omega
 | trans _ _ i1 i2=>exact i1.trans i2
theorem Zz68{ls:List Int}{o:Int}:∀ {T:List Int},T.Nodup->o∈T->sumL ls (wo T o)+lnz ls o=sumL ls T
 | [],_,h=>by cases h
 | x :: T,hn,h=>by
  obtain⟨n1,n2⟩:=Yy09.mp hn;unfold wo;by_cases c:x=o
  ·rw[Y0p (by simpa using c)];have e:T.filter (fun y=>decide (y≠o))=T:=Y0Y.mpr fun y hy=>Yl fun e=>n1 (by rw[c,<- e];exact hy)
   rw[e,<- c];show sumL ls T+lnz ls x=lnz ls x+sumL ls T
   omega
  ·rw[Y0o (by simpa using c)]
   have:=Zz68 (ls:=ls) n2 ((Yh.mp h).resolve_left fun e=>c e.symm)
   show lnz ls x+sumL ls (wo T o)+lnz ls o=lnz ls x+sumL ls T;omega
theorem ZE2{ls T M:List Int}{o z:Int}(hn:T.Nodup)(ho:o∈T)(hp:M.Perm (wo T o++[z])):sumL ls M=sumL ls T - lnz ls o+lnz ls z:=by
 rw[Ze4 hp]
 have:=Zz68 (ls:=ls) hn ho
 have e:sumL ls (wo T o++[z])=sumL ls (wo T o)+lnz ls z:=by unfold sumL;rw[YE,Y2l];exact Zc7 _ _
 omega
section
variable{n:Int}{ps:List (Int × Int)}{ls T:List Int}(g:Zu n ps)
include g
theorem Yz5{W:List Int}(hT:Zd n ps T)(hW:Zd n ps W)(h:∀ z∈T,z∈W):T.Perm W:=by
 have:=Zy2 (l:=W) hT.1.nodup (by have:=hT.2.1;have:=hW.2.1;omega) h
 exact this.symm
theorem Zi11(hT:Zd n ps T)(hg:NoG n ps ls T):∀(k:Nat) (W:List Int),Zd n ps W->(T.filter fun z=>decide (z∉W)).length=k->sumL ls T<=sumL ls W:=by
 intro k
 induction k using Nat.strongRecOn with
 | ind k ih =>
  intro W hW hk;by_cases c:∀ z∈T,z∈W
  ·rw[Ze4 (Yz5 g hT hW c)];exact Y0v _
  ·obtain⟨z,hz⟩:∃ z,z∈T/\z∉W:=Yf fun no=>c fun z hz=>Yf fun hn=>no ⟨z,hz,hn⟩;obtain⟨y,h1,h2⟩:=ZA1 g hT hW hz.1 hz.2;have lz:=hg z y h1
   obtain⟨M,hM1,hM2⟩:=Zf3 (wo W y++[z]);have tM:=Zj2 g hW h2 hM1 hM2
   have sM:=ZE2 (ls:=ls) hW.1.nodup h2.1 hM1;have yT:y∉T:=((Zy3 g hT).mp h1).2.1
   have less:(T.filter fun x=>decide (x∉M)).length<k:=by
    rw[<- hk];refine ZM1 (l:=z :: T.filter fun x=>decide (x∉M)) ?_ fun x hx=>?_
    ·refine Yy09.mpr ⟨fun h=>?_,hT.1.nodup.filter _⟩
     have:=Yt (Yi.mp h).2
     exact this (hM1.mem_iff.mpr (Yd _ (Yy1.mpr rfl)))
    ·rcases Yh.mp hx with e | e
     ·rw[e];exact Yi.mpr ⟨hz.1,Yl hz.2⟩
     ·obtain⟨e1,e2⟩:=Yi.mp e;have e2:=Yt e2
      refine Yi.mpr ⟨e1,Yl fun h=>e2 (hM1.mem_iff.mpr (Yk _ (wo_mem.mpr ⟨h,fun q=>yT (q ▸ e1)⟩)))⟩
   have:=ih _ less M tM rfl
   omega
theorem Zz76(hT:Zd n ps T)(h:∀ W,Zd n ps W->sumL ls T<=sumL ls W):NoG n ps ls T:=fun o z he=>by
 obtain⟨M,hM1,hM2⟩:=Zf3 (wo T o++[z]);have tM:=Zj2 g hT he hM1 hM2
 have sM:=ZE2 (ls:=ls) hT.1.nodup he.1 hM1
 have:=h M tM
 omega
theorem ZS1(hl:ls.length=ps.length):Zd n (cwT n.toNat ps ls) T↔Zd n ps T/\∀ W,Zd n ps W->sumL ls T<=sumL ls W:=by rw[Zz212 g hl];exact⟨fun h=>⟨h.1,fun W hW=>Zi11 g h.1 h.2 _ W hW rfl⟩,fun h=>⟨h.1,Zz76 g h.1 h.2⟩⟩
theorem ZH8(hl:ls.length=ps.length):(∃ W,Zd n ps W)↔∃ W,Zd n (cwT n.toNat ps ls) W:=by
 constructor
 ·rintro⟨W,hW⟩;obtain⟨L,hL1,hL2⟩:=Zc8 g;have key:∀ l:List (List Int),l≠[]->∃ m∈l,∀ x∈l,sumL ls m<=sumL ls x:=by
   intro l
   induction l with
   | nil=>intro h;exact absurd rfl h
   | cons x l ih =>
    intro _;by_cases c:l=[]
    ·rw[c];exact⟨x,by simp,fun y hy=>by rw[Yy1.mp hy];exact Y0v _⟩
    ·obtain⟨m,hm,q⟩:=ih c;by_cases d:sumL ls m<=sumL ls x
     ·exact⟨m,Yg _ hm,fun y hy=>by
       rcases Yh.mp hy with r | r
       ·rw[r];exact d
       ·exact q y r⟩
     ·exact⟨x,by simp,fun y hy=>by
       rcases Yh.mp hy with r | r
       ·rw[r];exact Y0v _
       ·have:=q y r;omega⟩
  obtain⟨m,hm,q⟩:=key L (fun e=>by rw[e]at hL1;exact absurd ((hL1 W).mpr hW) (by simp));exact⟨m,(ZS1 g hl).mpr ⟨(hL1 m).mp hm,fun V hV=>q V ((hL1 V).mpr hV)⟩⟩
 ·rintro⟨W,hW⟩;exact⟨W,((ZS1 g hl).mp hW).1⟩
end
end My
namespace L2
open PySem PySem.Spec PyProof.Rows
section
theorem isTup_tuple{h:Heap}{a:Addr}{us:Array Value}(p:IsTup h a us):h.IsTuple a us:=by obtain⟨o,e,c,n,d⟩:=p;exact⟨o,e,c,n,d⟩
end
end L2
namespace HT
open PySem PyProof.Rows
section
open PySem.SeqAt
open PySem.AutoSeq1 (wpAny_loadPart')
open PySem.MeetsSeq PySem.MeetsSeq2 PySem.MeetsSeq3
theorem Zy5(l b:Addr)(xs ys:Array Value)(n n2:Nat)(dd dd2:Option Addr)(sl sl2:Array (Option Value))(d:Nat)(r:Bool)(hd0:d<=min xs.size ys.size) :
  Meets (Builtin.«tuple.__lt__» ⟨[.ref l,.ref b],[]⟩)
   (fun A R s=>s.heap.get? l=some { cls:=.type "tuple",dict:=dd,data:=.seq xs n,slots:=sl }/\s.heap.get? b=some { cls:=.type "tuple",dict:=dd2,data:=.seq ys n2,slots:=sl2 } /\
    (∀ j (h1:j<xs.size) (h2:j<ys.size),j<=d->EqAt A.in1 s xs[j] ys[j] (decide (j≠d))) /\
    (∀(h1:d<xs.size) (h2:d<ys.size) (prog:Program) (w:World) (E:Value->Shared->Prop) (Q:Value->Shared->Prop),Q (.bool r) s->wpAny (model prog w) A.in1 (richCompare .Lt xs[d] ys[d]) Q E s) /\
    (d=min xs.size ys.size->r=decide (xs.size<ys.size))/\R (.ok (.ret (.bool r))) s) :=
 .of_wp fun prog w A R s h=>by
  obtain⟨hp,g,d1,tk,os⟩:=s;obtain⟨hl,hb,he,hlt,hfin,h⟩:=h;have f2:=AutoSeq1.sub_tuple_tuple
  have hZ:(xs.toList.zip ys.toList).length=min xs.size ys.size:=by simp
  wp_walk using Yy13 hl,Yy13 hb,wpAny_forIn_list _ (fun rest b s'=>b.1=none/\s'=⟨hp,g,d1,tk,os⟩/\∃ i,i<=d/\rest=(xs.toList.zip ys.toList).drop i) _
  case turn =>
   rintro⟨y,x⟩ rest b s' ⟨hb',rfl,i,hid,hz⟩;have hi:i<(xs.toList.zip ys.toList).length:=by
    rcases Nat.lt_or_ge i (xs.toList.zip ys.toList).length with q | q
    ·exact q
    ·rw[List.drop_of_length_le q]at hz;cases hz
   have hm:i<min xs.size ys.size:=hZ ▸ hi;have h1:i<xs.size:=Yq hm (Nat.min_le_left _ _)
   have h2:i<ys.size:=Yq hm (Nat.min_le_right _ _);rw[Y2U hi]at hz;injection hz with hyx hrest
   have hy:y=xs[i]:=by have:=Yy04 Prod.fst hyx;simpa using this
   have hx:x=ys[i]:=by have:=Yy04 Prod.snd hyx;simpa using this
   subst hy hx;refine Yy4 (he i h1 h2 hid prog w _ _ ?_);by_cases c:i=d
   ·subst c;rw[YW (by simp)];have hri:=hlt h1 h2 prog w
    wp_walk using hri
    exact⟨_,rfl,by simpa using h⟩
   ·rw[Yl c]
    wp_walk
    exact⟨rfl,rfl,i+1,by omega,hrest⟩
  case fin =>
   rintro⟨b1,b2⟩ s' ⟨hb',rfl,i,hid,hz⟩;simp only at hb';subst hb';have hge:min xs.size ys.size<=i:=by
    rcases Nat.lt_or_ge i (xs.toList.zip ys.toList).length with q | q
    ·rw[Y2U q]at hz;cases hz
    ·exact hZ ▸ q
   rw[hfin (by omega)]at h
   wp_walk
   exact⟨_,rfl,by simpa [Builtin.Tuple.tupleCompareSizes] using h⟩
  case h=>exact⟨rfl,rfl,0,Yj _,rfl⟩
end
section
variable{prog:Program}{w:World}{A:Around}{E:Value->Shared->Prop}{s:Shared}
theorem ZU3{l b:Addr}{xs ys:Array Value}{d:Nat}{r:Bool}{Q:Value->Shared->Prop}(hl:IsTup s.heap l xs)(hb:IsTup s.heap b ys)(hd0:d<=min xs.size ys.size)(hu:A.units<cLine)
  (he:∀ j (h1:j<xs.size) (h2:j<ys.size),j<=d->SeqAt.EqAt A.in1 s xs[j] ys[j] (decide (j≠d)))
  (hlt:∀(h1:d<xs.size) (h2:d<ys.size) (prog:Program) (w:World) (E:Value->Shared->Prop) (Q:Value->Shared->Prop),Q (.bool r) s->wpAny (model prog w) A.in1 (richCompare .Lt xs[d] ys[d]) Q E s)
  (hfin:d=min xs.size ys.size->r=decide (xs.size<ys.size)) (h:Q (.bool r) s):wpAny (model prog w) A (compareOp .Lt (.ref l) (.ref b)) Q E s:=by
 obtain⟨⟨cls,dd,data,sl⟩,ho,hc,n,hd⟩:=id hl;obtain⟨⟨cls2,dd2,data2,sl2⟩,ho2,hc2,n2,hd2⟩:=id hb;simp only at hc hd hc2 hd2;subst hc hd hc2 hd2;exact richCompare_meets_room (op:=.Lt) ⟨_,ho,rfl⟩ ⟨_,ho2,rfl⟩ Y3e Y3b (Yy35 _ _) (Zy5 l b xs ys n n2 dd dd2 sl sl2 d r hd0)
  ⟨ho,ho2,he,hlt,hfin,show Value.bool r≠Value.notImplemented/\Q (.bool r) s from⟨(fun x=>nomatch x),h⟩⟩ hu
theorem ZF4{l b:Addr}{xs ys:Array Value}{ns ms:List Int}(hl:IsTup s.heap l xs)(hb:IsTup s.heap b ys)(hi:IntsAre xs.toList ns)(hj:IntsAre ys.toList ms)(hu:A.units<cLine):SeqAt.EqAt A s (.ref l) (.ref b) (decide (ns=ms)):=by
 have z1:xs.size=ns.length:=by rw[<- hi.length];simp
 have z2:ys.size=ms.length:=by rw[<- hj.length];simp
 by_cases hab:l=b
 ·subst hab;obtain⟨o1,e1,_,n1,d1⟩:=hl;obtain⟨o2,e2,_,n2,d2⟩:=hb;rw[e1]at e2;cases e2;rw[d1]at d2;cases d2;have en:ns=ms:=L2.ints_uniq hi hj
  rw[Yl en];exact Y2r _
 ·have k:=SeqAt.RcAt.tuples (A:=A) (s:=s) (e:=fun j=>ns.getD j 0 == ms.getD j 0) (L2.isTup_tuple hl) (L2.isTup_tuple hb) hu fun j h1 h2=>by obtain⟨t,ea⟩:=IntsAre.int_at hi j xs[j] (by simp[h1]);obtain⟨u,ec⟩:=IntsAre.int_at hj j ys[j] (by simp[h2]);rw[ea,ec];exact Y1c _ _ _ _
  have e:((List.range (min xs.size ys.size)).all (fun j=>ns.getD j 0 == ms.getD j 0) && xs.size == ys.size)=decide (ns=ms):=by
   rw[z1,z2,Y0h,Y0t,Y0l,YJ];constructor
   ·rintro⟨q1,q2⟩;have q2:ns.length=ms.length:=by simpa using q2
    refine Y0H fun j=>?_;by_cases c:j<ns.length
    ·have:=q1 j (YD.mpr (by omega))
     rw[Yy3,Yy3,Yy0 c,Yy0 (by omega)]at this
     have:=eq_of_beq this
     rw[Yy0 c,Yy0 (by omega)];exact Yy04 some this
    ·rw[QP (by omega),QP (by omega)]
   ·rintro rfl;exact⟨fun j _=>by simp,by simp⟩
  rw[e]at k;exact Y1Y hab k
def ltP(x y:Int × List Int):Bool:=decide (x.1<y.1) || (decide (x.1=y.1) && lexLt x.2 y.2)
theorem lt_pair{l b p q:Addr}{a c:Int}{t u:Tok}{r1 r2:List Value}{xs ys:Array Value}{ns ms:List Int}{Q:Value->Shared->Prop}(hl:IsTup s.heap l (.int a t :: .ref p :: r1).toArray)(hb:IsTup s.heap b (.int c u :: .ref q :: r2).toArray)
  (hp:IsTup s.heap p xs) (hq:IsTup s.heap q ys) (hi:IntsAre xs.toList ns) (hj:IntsAre ys.toList ms) (hr:a=c->ns=ms->r1=[]/\r2=[]) (hu:A.units+2<cLine) (h:Q (.bool (ltP (a,ns) (c,ms))) s):wpAny (model prog w) A (compareOp .Lt (.ref l) (.ref b)) Q E s:=by
 have u1:A.units<cLine:=by omega
 have u2:A.in1.units<cLine:=by show A.units+1<cLine;omega
 by_cases c1:a=c
 ·subst c1;by_cases c2:ns=ms
  ·obtain⟨rfl,rfl⟩:=hr rfl c2;have e:ltP (a,ns) (a,ms)=false:=by
    subst c2;show(decide (a<a) || (decide (a=a) && lexLt ns ns))=false
    rw[My.lex_irrefl];simp
   refine ZU3 (d:=2) (r:=ltP (a,ns) (a,ms)) hl hb (by simp) u1 (fun j h1 h2 hj'=>?_) (fun h1=>absurd h1 (by simp)) (fun _=>by rw[e];simp) h
   match j,h1,h2,hj' with
   | 0,_,_,_=>exact(show SeqAt.EqAt A.in1 s (.int a t) (.int a u) true from by have:=Y1c (A:=A.in1) (s:=s) a t a u;simpa using this)
   | 1,_,_,_=>exact(show SeqAt.EqAt A.in1 s (.ref p) (.ref q) true from by have:=ZF4 (A:=A.in1) hp hq hi hj u2;rwa [Yl c2]at this)
   | j+2,h1,_,_=>exact absurd h1 (by simp)
  ·have e:ltP (a,ns) (a,ms)=lexLt ns ms:=by
    show(decide (a<a) || (decide (a=a) && lexLt ns ms))=_
    simp
   rw[e]at h;refine ZU3 (d:=1) (r:=lexLt ns ms) hl hb (by simp) u1 (fun j h1 h2 hj'=>?_) (fun h1 h2 prog w E Q hq'=>?_) (fun z=>absurd z (by simp)) h
   ·match j,h1,h2,hj' with
    | 0,_,_,_=>exact(show SeqAt.EqAt A.in1 s (.int a t) (.int a u) true from by have:=Y1c (A:=A.in1) (s:=s) a t a u;simpa using this)
    | 1,_,_,_=>exact(show SeqAt.EqAt A.in1 s (.ref p) (.ref q) false from by have:=ZF4 (A:=A.in1) hp hq hi hj u2;rwa [YW c2]at this)
    | j+2,_,_,z=>omega
   ·exact(show wpAny (model prog w) A.in1 (compareOp .Lt (.ref p) (.ref q)) Q E s from Zf6 hp hq hi hj u2 hq')
 ·have e:ltP (a,ns) (c,ms)=decide (a<c):=by
   show(decide (a<c) || (decide (a=c) && lexLt ns ms))=_
   simp[c1]
  rw[e]at h;refine ZU3 (d:=0) (r:=decide (a<c)) hl hb (Yj _) u1 (fun j h1 h2 hj'=>?_) (fun h1 h2 prog w E Q hq'=>?_) (fun z=>absurd z (by simp)) h
  ·match j,h1,h2,hj' with
   | 0,_,_,_=>exact(show SeqAt.EqAt A.in1 s (.int a t) (.int c u) false from by have:=Y1c (A:=A.in1) (s:=s) a t c u;rwa [show(a == c)=false by simpa using c1]at this)
   | j+1,_,_,z=>omega
  ·exact ZO5 A.in1 s a t c u prog w E Q hq'
end
theorem ltP_irrefl(x:Int × List Int):ltP x x=false:=by
 show(decide (x.1<x.1) || (decide (x.1=x.1) && lexLt x.2 x.2))=false
 rw[My.lex_irrefl];simp
theorem ltP_iff{x y:Int × List Int}:ltP x y=true↔x.1<y.1\/(x.1=y.1/\lexLt x.2 y.2=true):=by unfold ltP;simp
theorem ltP_trans{x y z:Int × List Int}(h1:ltP x y=true)(h2:ltP y z=true):ltP x z=true:=by
 rw[ltP_iff]at h1 h2 ⊢;rcases h1 with a | ⟨a,b⟩
 ·rcases h2 with c | ⟨c,d⟩
  ·exact .inl (by omega)
  ·exact .inl (by omega)
 ·rcases h2 with c | ⟨c,d⟩
  ·exact .inl (by omega)
  ·exact .inr ⟨by omega,My.lex_trans b d⟩
end HT
namespace My
open PySem L2
theorem best_leastG{lt:Nat->Nat->Bool}(hi:∀ i,lt i i=false)(ht:∀ i j k,lt i j=true->lt j k=true->lt i k=true):∀ j i,i<=j->lt i (argBest lt j)=false
 | 0,i,h=>by
  have:i=0:=by omega
  subst this;exact hi _
 | j+1,i,h=>by
  have ih:=best_leastG hi ht j;unfold argBest;cases hb:lt (j+1) (argBest lt j) with
  | true =>
   rw[if_pos rfl];by_cases e:i=j+1
   ·subst e;exact hi _
   ·cases hc:lt i (j+1) with
    | false=>rfl
    | true =>
     have:=ih i (by omega)
     rw[ht _ _ _ hc hb]at this;cases this
  | false =>
   rw[if_neg (by simp)];by_cases e:i=j+1
   ·subst e;exact hb
   ·exact ih i (by omega)
end My
namespace L2
open PySem PySem.Spec PyProof.Rows
section
variable{prog:Program}{w:World}{A:Around}{I S:Addr}{fp wr:List Addr}{n:Nat}{P:Nat->Value->Prop}{St:Nat->Heap->Prop}{R:Result->Shared->Prop}
theorem Zx7(W:Walks prog w A.in1 I fp wr n P St)(lt:Nat->Nat->Bool)(C:Heap->Prop)(ck:∀ h h',C h->(∀ b o,b≠S->b∉wr->h.get? b=some o->h'.get? b=some o)->C h')(cc:∀(s:Shared) (i j:Nat) (v u:Value) (E:Value->Shared->Prop) (Q:Value->Shared->Prop),C s.heap->i≠j->P i v->P j u->Q (.bool (lt i j)) s->wpAny (model prog w) A.in1 (compareOp .Lt v u) Q E s)(hSf:S∉fp):∀(k j:Nat) (s:Shared) (vb:Value) (c:Nat),n - (j+1)=k->j+1<=n->St (j+1) s.heap->P (argBest lt j) vb->C s.heap ->
  s.heap.get? S=some { cls:=.type "list",dict:=none,data:=.seq #[vb,vb] c,slots:=#[] } ->
  (∀ v h' tk,P (argBest lt (n - 1)) v->(∀ b o,b≠S->b∉wr->s.heap.get? b=some o->h'.get? b=some o)->R (.ok (.ret v)) { s with heap:=h',toks:=tk }) ->
  codeAny (model prog w) A (.builtin "min.loop" ⟨[.ref I,.none,.ref S],[]⟩) R s:=by
 have hSw:S∉wr:=fun h=>hSf (W.sub _ h);have nm:(toString "min"++toString ".loop":String)="min.loop":=by decide
 intro k
 induction k with
 | zero =>
  intro j s vb c hk hj st pb ta hS hR;have ej:j+1=n:=by omega
  refine Y0c Y3c ?_;rw[Y0u Yy19 _];show wpAny _ A.in1 (seqItems? (.ref S) >>= _) _ _ s
  refine Yy4 (Yy27 hS rfl ?_);show wpAny _ A.in1 (tryCatch (pyNext (.ref I)) _ >>= _) _ _ s
  refine Yy4 (Y2C (W.done s _ _ (ej ▸ st) fun h' tk hk'=>?_));have hS':=hk' S _ hSw hS
  show wpAny _ A.in1 (updateSeq S (fun _=>#[]) >>= _) _ _ _;refine Yy4 (Y2o hS' rfl (Yy4 (Y2M (Yn ?_))));exact hR vb _ tk (by rw[<- ej];exact pb) fun b o b1 b2 e=>(YU _ _ (Yy03 b1)).trans (hk' b o b2 e)
 | succ k ih =>
  intro j s vb c hk hj st pb ta hS hR;have hlt:j+1<n:=by omega
  refine Y0c Y3c ?_;rw[Y0u Yy19 _];show wpAny _ A.in1 (seqItems? (.ref S) >>= _) _ _ s
  refine Yy4 (Yy27 hS rfl ?_);show wpAny _ A.in1 (tryCatch (pyNext (.ref I)) _ >>= _) _ _ s
  refine Yy4 (Y2C (W.item (j+1) s _ _ hlt st fun v h' tk pv st' hk'=>?_));have hS':=hk' S _ hSw hS
  have ta':=ck _ h' ta fun b o _ b2 e=>hk' b o b2 e;show wpAny _ A.in1 (tryCatch (holding [v,v] (richCompare .Lt (v) (vb) >>= _)) _ >>= _) _ _ _
  refine Yy4 (Y2C (Y0G (Yy4 (show wpAny _ _ (compareOp .Lt (v) (vb)) _ _ _ from cc { s with heap:=h',toks:=tk } (j+1) _ v vb _ _ ta' (Y0K (Nat.lt_succ_of_le (My.best_le _ _))) pv pb ?_))));refine Yy4 (Y0G (Yy10 ?_));refine Yy4 (Y2M (Yn ?_));cases hb:lt (j+1) (argBest lt j) with
  | true =>
   simp only [if_true];refine Yy4 (Y2o hS' rfl (Yy4 (Y2M ?_)));rw[nm];have up:∀ b o,b≠S->h'.get? b=some o->(h'.update S (Obj.mapSeq fun _=>#[v,v])).get? b=some o:=fun b o b1 e=>(YU _ _ (Yy03 b1)).trans e
   refine Yn ⟨Yy15 Yy19 _,ih (j+1) _ (v) _ (by omega) hlt (W.frame _ h' _ st' fun b hbf o e=>up b o (fun h=>hSf (h ▸ hbf)) e) ?_ (ck _ _ ta' fun b o b1 _ e=>up b o b1 e) (Y0d _ hS' rfl) fun v' h'' tk'' p'' k''=>?_⟩
   ·unfold argBest;rw[if_pos hb];exact pv
   ·exact hR v' h'' tk'' p'' fun b o b1 b2 e=>k'' b o b1 b2 (up b o b1 (hk' b o b2 e))
  | false =>
   simp only [Y2n,if_false];refine Yy4 (Y2M ?_);rw[nm];refine Yn ⟨Yy15 Yy19 _,ih (j+1) _ (vb) c (by omega) hlt st' ?_ ta' hS' fun v' h'' tk'' p'' k''=>?_⟩
   ·unfold argBest;rw[if_neg (by rw[hb];decide)];exact pb
   ·exact hR v' h'' tk'' p'' fun b o b1 b2 e=>k'' b o b1 b2 (hk' b o b2 e)
theorem Zz86 (W:Walks prog w A.in1 I fp wr n P St) (lt:Nat->Nat->Bool) (C:Heap->Prop) (ck:∀ h h',C h->(∀ b o,b≠S->b∉wr->h.get? b=some o->h'.get? b=some o)->C h') (cc:∀(s:Shared) (i j:Nat) (v u:Value) (E:Value->Shared->Prop) (Q:Value->Shared->Prop),C s.heap->i≠j->P i v->P j u->Q (.bool (lt i j)) s->wpAny (model prog w) A.in1 (compareOp .Lt v u) Q E s) (hSf:S∉fp) (hn:0<n) {s:Shared} {c:Nat} (st:St 0 s.heap) (ta:C s.heap) (hS:s.heap.get? S=some { cls:=.type "list",dict:=none,data:=.seq #[] c,slots:=#[] })
  (hR:∀ v h' tk,P (argBest lt (n - 1)) v->(∀ b o,b≠S->b∉wr->s.heap.get? b=some o->h'.get? b=some o)->R (.ok (.ret v)) { s with heap:=h',toks:=tk }) :
  codeAny (model prog w) A (.builtin "min.loop" ⟨[.ref I,.none,.ref S],[]⟩) R s:=by
 have hSw:S∉wr:=fun h=>hSf (W.sub _ h);have nm:(toString "min"++toString ".loop":String)="min.loop":=by decide
 refine Y0c Y3c ?_;rw[Y0u Yy19 _];show wpAny _ A.in1 (seqItems? (.ref S) >>= _) _ _ s
 refine Yy4 (Yy27 hS rfl ?_);show wpAny _ A.in1 (tryCatch (pyNext (.ref I)) _ >>= _) _ _ s
 refine Yy4 (Y2C (W.item 0 s _ _ hn st fun v h' tk pv st' hk'=>?_));have hS':=hk' S _ hSw hS
 show wpAny _ A.in1 (updateSeq S (fun _=>#[v,v]) >>= _) _ _ _;refine Yy4 (Y2o hS' rfl ?_);rw[nm];have up:∀ b o,b≠S->h'.get? b=some o->(h'.update S (Obj.mapSeq fun _=>#[v,v])).get? b=some o:=fun b o b1 e=>(YU _ _ (Yy03 b1)).trans e
 refine Yn ⟨Yy15 Yy19 _,Zx7 W lt C ck cc hSf _ 0 _ v _ rfl hn (W.frame _ h' _ st' fun b hbf o e=>up b o (fun h=>hSf (h ▸ hbf)) e) pv (ck _ _ ta fun b o b1 b2 e=>up b o b1 (hk' b o b2 e)) (Y0d _ hS' rfl) fun v' h'' tk'' p'' k''=>?_⟩;exact hR v' h'' tk'' p'' fun b o b1 b2 e=>k'' b o b1 b2 (up b o b1 (hk' b o b2 e))
end
section
variable{X:Cx}
theorem ZT1{x:V}{xs:List V}{us:List Value}(r:Vals (x :: xs) us):∃ u vs,us=u :: vs/\RelV x u/\Vals xs vs:=by
 cases r with
 | cons a b=>exact⟨_,_,rfl,a,b⟩
theorem Zz37 (K:PySem.W.Frag) (hc:X.calm=true) (hu:X.A.units+8<cLine) (hk:X.K=K:=by rfl):Zb3 X (.builtin "min") (fun xs H Q=>∃(p:Addr) (ys:List V) (L:List (Int × List Int)) (fl:Bool),xs=[.ref p]/\SqL K H p ys/\0<ys.length/\ys.length=L.length /\
  (∀(i:Nat) (x:Int × List Int),L[i]?=some x->∃(a q:Addr) (rest:List V),ys[i]?=some (.ref a)/\SqT K H a (.int x.1 :: .ref q :: rest)/\SqT K H q (x.2.map V.int)/\(fl=true->rest=[]))/\(fl=false->L.Nodup) /\
  ∀(i:Nat) (a:Addr) (x:Int × List Int),L[i]?=some x->ys[i]?=some (.ref a)->(∀ m∈L,HT.ltP m x=false)->Q (.ref a) H):=by
 subst hk;intro pins s σ H xs us Q I r h;obtain⟨p,ys,L,fl,rfl,hq,hn,hl,hT,hnd,q⟩:=h;obtain⟨u,rfl,ru⟩:=Zz75 r;obtain rfl:u=Value.ref p:=ru;obtain⟨its,rv,pl,hz⟩:=I.list hq;have el:its.length=ys.length:=rv.length.symm
 have hp:p<s.heap.objs.size:=let ⟨_,_,e,_⟩:=pl;Yp e
 have nm:(toString "min"++toString ".loop":String)="min.loop":=by decide
 refine call_function_tree F.kind_min F.plain_min F.entry_min (F.args_min1 _) ?_;show wpAny _ X.A.in1 (Builtin.Builtins.bindParams "min" ["key","default"] 0 ⟨[],[]⟩ >>= _) _ _ s
 refine Yy4 (Y1w (a:=[none,none]) rfl ?_);refine Yy4 (Yn ?_);refine Yy4 (Yy28 pl.isList ?_);refine Yy4 (Y0D ?_);rw[nm];have W:=Walks.list (prog:=X.prog) (w:=X.w) (A:=X.A.in1) (I.ok.hd hc) s.heap.objs.size p (Yu hp) its.toArray
 obtain⟨G,hG⟩:∃ G,G=s.heap.push { cls:=.type "list_iterator",data:=.fields #[.ref p,.int 0 0] }:=⟨_,rfl⟩;have e1:G.get? s.heap.objs.size=some { cls:=.type "list_iterator",data:=.fields #[.ref p,.int 0 0] }:=by rw [hG];exact Yo s.heap rfl
 have z1:G.objs.size=s.heap.objs.size+1:=by rw[hG];exact Y0Z ..
 have up:∀ b o,s.heap.get? b=some o->G.get? b=some o:=fun b o e=>by rw[hG];exact Yy5 _ e
 have plG:G.IsList p its.toArray:=by rw[hG];exact pl.isList.push _
 rw[<- hG];have at':∀(i:Nat) (v:Value),its.toArray[i]?=some v->∃(a:Addr) (x:Int × List Int) (qa:Addr) (rest:List V),L[i]?=some x/\ys[i]?=some (.ref a)/\v=.ref a/\SqT X.K H a (.int x.1 :: .ref qa :: rest)/\SqT X.K H qa (x.2.map V.int)/\(fl=true->rest=[]):=fun i v e=>by
  have e:its[i]?=some v:=by simpa using e
  have hi:i<its.length:=(Yy2.mp e).1;obtain⟨a,qa,rest,ea,ta,tq,tf⟩:=hT i L[i] (Yy0 (by omega));obtain⟨x,ex,rx⟩:=rv.at hi;have ea2:=ea
  rw[ex]at ea2;cases ea2;rw[Yy0 hi]at e;have e:its[i]=v:=Yc e
  rw[e]at rx;exact⟨a,L[i],qa,rest,Yy0 (by omega),ea,rx,ta,tq,tf⟩
 refine Yn ⟨Yy15 Yy19 _,?_⟩;obtain⟨lt,hlt⟩:∃ lt:Nat->Nat->Bool,lt=fun i j=>HT.ltP (L.getD i (0,[])) (L.getD j (0,[])):=⟨_,rfl⟩;refine Zz86 (A:=X.A) (S:=G.objs.size) W lt (fun h=>∀ b o,s.heap.get? b=some o->h.get? b=some o) (fun h h' c k b o e=>k b o (by rw[z1];exact Yu (Y0w (Yp e))) (fun z=>absurd (Yy1.mp z) (Yu (Yp e))) (c b o e)) (fun s2 i j v u E Q c hij pv pu hQ=>?_) ?_ (by rw[Ya];omega) ⟨⟨_,Yy5 _ e1,rfl,rfl⟩,plG.push _⟩ (fun b o e=>Yy5 _ (up b o e)) (Yo _ rfl) fun v h' tk pv hk'=>?_
 ·obtain⟨a1,x1,q1,r1,l1,_,rfl,t1,tq1,f1⟩:=at' i v pv;obtain⟨a2,x2,q2,r2,l2,_,rfl,t2,tq2,f2⟩:=at' j u pu;have keep:∀ {a:Addr} {xs:Array Value},IsTup s.heap a xs->IsTup s2.heap a xs:=fun⟨o,ho,z⟩=>⟨o,c _ o ho,z⟩
  obtain⟨i1,v1,p1,_⟩:=I.tuple t1;obtain⟨i2,v2,p2,_⟩:=I.tuple t2;obtain⟨j1,w1,o1,_⟩:=I.tuple tq1;obtain⟨j2,w2,o2,_⟩:=I.tuple tq2;obtain⟨c1,rest1,rfl,rc1,v1'⟩:=ZT1 v1;obtain⟨c2,rest2,rfl,rc2,v2'⟩:=ZT1 v2;obtain⟨d1,rest1,rfl,rd1,vv1⟩:=ZT1 v1';obtain⟨d2,rest2,rfl,rd2,vv2⟩:=ZT1 v2';obtain⟨tk1,rfl⟩:∃ t,c1=Value.int x1.1 t:=rc1;obtain⟨tk2,rfl⟩:∃ t,c2=Value.int x2.1 t:=rc2;obtain rfl:d1=Value.ref q1:=rd1;obtain rfl:d2=Value.ref q2:=rd2;have g1:L.getD i (0,[])=x1:=My.getD_of l1
  have g2:L.getD j (0,[])=x2:=My.getD_of l2;refine HT.lt_pair (keep p1) (keep p2) (keep o1) (keep o2) (by simpa using ZI w1) (by simpa using ZI w2) (fun b1 b2=>?_) (by show X.A.units+1+2<cLine;omega) (by rw[hlt]at hQ;simpa only [g1,g2] using hQ);have hxx:x1=x2:=Prod.ext b1 b2
  cases hfl:fl with
  | true =>
   have z1:=f1 hfl;have z2:=f2 hfl
   rw[z1]at vv1;rw[z2]at vv2;have a1:=vv1.length
   have a2:=vv2.length;exact⟨YK.mp a1.symm,YK.mp a2.symm⟩
  | false =>
   exact absurd (My.nodup_get (hnd hfl) l1 (by rw[hxx];exact l2)) hij
 ·rw[z1];simp only [Yh,List.not_mem_nil,or_false,not_or];exact⟨Nat.succ_ne_self _,Y0K (Y0w hp)⟩
 ·obtain⟨a,x,qa,rest,l1,y1,rfl,_⟩:=at' _ v pv;have hs:its.toArray.size=ys.length:=by rw[Ya];exact el
  refine⟨.ref a,H,I.kept fun b o e=>hk' b o ?_ ?_ (Yy5 _ (up b o e)),rfl,q _ a x l1 y1 fun m hm=>?_⟩
  ·rw[z1];exact Yu (Y0w (Yp e))
  ·exact fun h=>absurd (Yy1.mp h) (Yu (Yp e))
  ·obtain⟨i,hi,ei⟩:=Y2i hm;have k:=My.best_leastG (lt:=lt) (fun i=>by rw[hlt];exact HT.ltP_irrefl _) (fun i j k a b=>by rw[hlt]at a b ⊢;exact HT.ltP_trans a b) (its.toArray.size - 1) i (by omega)
   have g1:L.getD i (0,[])=m:=by rw[Yy3,Yy0 hi,ei];rfl
   have g2:L.getD (argBest lt (its.toArray.size - 1)) (0,[])=x:=My.getD_of l1;rw[<- g1,<- g2];rw[hlt]at k ⊢;exact k
end
end L2
namespace My
open PySem L2
def bkD(d:Int):Int:=if d % 2=0 then d+1 else d - 1
def dtU(ps:List (Int × Int))(p:Int):Nat->List Int
 | 0=>[]
 | i+1=>dtU ps p i++(if (ps.getD i (0,0)).1=p then [2 * (i:Int)] else [])++(if (ps.getD i (0,0)).2=p then [2 * (i:Int)+1] else [])
def dts(ps:List (Int × Int))(p:Int):List Int:=dtU ps p ps.length
def VT(n:Nat)(ps:List (Int × Int))(ts:List (List Int)):Prop:=ts.length=n/\∀(p:Nat) (row:List Int),ts[p]?=some row->row.Perm (dts ps (p:Int))
def bhR(row:List Int)(k:Nat):List (Int × Int):=(List.range k).map fun i=>(bkD (row.getD i 0),row.getD ((i+1) % row.length) 0)
def bhL(ts:List (List Int)):List (Int × Int):=ts.flatMap fun row=>bhR row row.length
def Orb(B:List (Int × Int))(d:Int)(row:List Int):Prop:=row[0]?=some d/\row.Nodup/\(∀ i x y,row[i]?=some x->row[i+1]?=some y->(x,y)∈B)/\∀ x,row[row.length - 1]?=some x->(x,d)∈B
def Rds(B:List (Int × Int)):Nat->List (List Int)->Prop
 | 0,R=>R=[]
 | k+1,R=>∃ R',Rds B k R'/\(((k:Int)∈R'.flatten/\R=R')\/((k:Int)∉R'.flatten/\∃ row,Orb B k row/\R=R'++[row]))
structure JagAt (H0:Hp) (r:Addr) (H:Hp) (ys:List V) (L:List (List Int)):Prop where
 tab:H r=some (.lst ys)
 rows:Bears (LiV r H) ys L
 nd:ys.Nodup
 new:∀ A,V.ref A∈ys->H0 A=none
def RdW(ps:List (Int × Int))(ts:List (List Int))(R:List (List Int)):Prop:=(ps.length=0/\R=[[]])\/(0<ps.length/\Rds (bhL ts) (2 * ps.length) R)
def plR(row:List Int)(k:Int):List (Int × Int):=row.map fun d=>(d,k)
def plL(ts:List (List Int)):Nat->List (Int × Int)
 | 0=>[]
 | i+1=>plL ts i++plR (ts.getD i []) i
end My
namespace L2
open PySem PySem.Spec PyProof.Rows
section
variable{X:Cx}{a b:Expr}{ta tb:TE}{pos:Pos}
theorem Zz711(ha:PE X a ta)(h1:starEach [a] X.env=[(false,eval a X.env)]:=by rfl):PE X (.List [a] pos) (tLst (Zr10 ta tNil)):=Zz81 (Zz0 ha Zz3 h1)
theorem Zz611{k:Nat}(ha:PE X a ta)(hb:PE X b tb)(h1:starEach [a,b] X.env=(false,eval a X.env) :: starEach [b] X.env:=by rfl)(h2:starEach [b] X.env=[(false,eval b X.env)]:=by rfl):PE X (.Tuple [a,b] k pos) (tTup (Zr10 ta (Zr10 tb tNil))):=ZN (Zz0 ha (Zz0 hb Zz3 h2) h1)
end
end L2
namespace My
open PySem L2
def Flat(n:Int)(ps:List (Int × Int))(R:List (List Int)):Prop:=Zz18 n ps/\n - (ps.length:Int)+(R.length:Int)=2
def rnR(R:List (List Int))(d:Int):Int:=((plL R R.length).find? fun p=>decide (p.1=d)).elim 0 (·.2)
def owT(R:List (List Int))(m:Nat):List (Int × Int):=(List.range m).map fun(k:Nat)=>(rnR R (2 * (k:Int)),rnR R (2 * (k:Int)+1))
section
variable{one d0 d1:Int}{other:Option Int}
def hdD(one:Int)(other:Option Int)(d0 d1 y:Int):Int:=if y=one then d0 else if some y=other then d1 else y
end
structure Back (n:Nat) (ps:List (Int × Int)) (ts R D:List (List Int)):Prop where
 flat:Flat n ps R
 few:R.length<=14
 rows:∀ l∈R,l.length<64
 good:Zu R.length (owT R ps.length)
 vt:VT R.length (owT R ps.length) R
 rds:RdW (owT R ps.length) R D
 flat2:Flat R.length (owT R ps.length) D
 len:D.length=n
 good2:Zu n (owT D ps.length)
 tc:∀ c,TC n ps c->TC n (owT D ps.length) c
 nd:D.flatten.Nodup
 all:∀ x:Int,0<=x->x<2 * (ps.length:Int)->x∈D.flatten
 small:D.flatten.length<=100
def Told(l:List Int):Prop:=∀ z∈l,-(10 ^ 60)<z/\z<(10:Int) ^ 60
abbrev Tr:=Int × List (Int × Int) × List Int
def OkT(T:Tr):Prop:=Zu T.1 T.2.1/\T.2.2.length=T.2.1.length/\Told T.2.2
def Zj13(C:Addr)(H:Hp)(v:V)(T:Tr):Prop:=∃ t w a,v=.ref t/\H t=some (.tup [.ref w,.ref a])/\WebAt C H w T.1 T.2.1/\H a=some (.lst (IL T.2.2))
def Zz314(H:Hp)(v:V)(T:Tr):Prop:=∃ p l b xs,v=.ref p/\H p=some (.tup [.int T.1,.ref l,.ref b])/\H l=some (.lst xs)/\PairsV H xs T.2.1/\H b=some (.lst (IL T.2.2))
def Zm13 (C:Addr) (H:Hp) (x d:Addr) (zs:List V):Prop:=∃ dx,H x=some (.ins C dx (putF "stages" (.ref d) []))/\H d=some (.lst zs)
structure DSt (CD C:Addr) (H:Hp) (x d pA:Addr) (zs ys:List V) (L M:List Tr):Prop where
 desk:Zm13 CD H x d zs
 st:Bears (Zj13 C H) zs L
 pst:H pA=some (.lst ys)
 past:Bears (Zz314 H) ys M
 okL:∀ T∈L,OkT T
 okM:∀ T∈M,OkT T
 posL:0<L.length
 posM:0<M.length
end My
namespace L2
open PySem PySem.Spec PyProof.Rows
section
variable{H:Hp}{e C:Addr}{fl:Value}{h0:Heap}
structure FlyM (h0:Heap) (H:Hp) (e C:Addr) (fl:Value) (h:Heap):Prop where
 ex:∃ oe vs T oT ts a0,h.get? e=some oe/\oe.cls=.ref C/\oe.data=.fields vs/\vs[0]?=some a0/\vs[1]?=some (.ref T)/\T≠e/\h.get? T=some oT/\oT.data=.fields ts/\ts[3]?=some fl/\h0.get? T=none/\H T=none
 new:h0.get? e=none
 free:H e=none
end
end L2
namespace My
open PySem PySem.W PyProof.Rows
def goT{α:Type}(c:Nat->Nat->Bool):KasT α->α
 | .ret a=>a
 | .ask i j k=>goT c (k (c i j))
theorem ZK1{α β:Type}{c:Nat->Nat->Bool}{f:α->KasT β}:∀ t:KasT α,goT c (t.bind f)=goT c (f (goT c t))
 | .ret _=>rfl
 | .ask i j k=>ZK1 (k (c i j))
section
variable{n:Nat}{key:Nat->Int}
def Ahd(key:Nat->Int)(i j:Nat):Prop:=key i<key j\/(key i=key j/\i<j)
theorem Ahd.trans{i j k:Nat}(h1:Ahd key i j)(h2:Ahd key j k):Ahd key i k:=by unfold Ahd at *;omega
structure Ord (n m:Nat) (p:Array Nat):Prop where
 perm:p.Perm (List.range n).toArray
 suf:∀ i,m<=i->i<n->p.getD i 0=i
theorem Ord.size{m:Nat}{p:Array Nat}(h:Ord n m p):p.size=n:=by rw[h.perm.size_eq];simp
theorem Zi12{p:Array Nat}{i:Nat}(h:i<p.size):p[i]?=some (p.getD i 0):=by rw[Yv,YH h];rfl
theorem Ord.inj{m:Nat}{p:Array Nat}(h:Ord n m p){i j:Nat}(hi:i<n)(hj:j<n)(e:p.getD i 0=p.getD j 0):i=j:=by
 have hn:p.toList.Nodup:=(Y1a.mp h.perm).nodup_iff.mpr List.nodup_range;have hs:=h.size
 have e1:=Zi12 (p:=p) (i:=i) (by omega);have e2:=Zi12 (p:=p) (i:=j) (by omega)
 rw[<- YV]at e1 e2;exact(List.getElem?_inj (i:=i) (j:=j) (by rw[YN];omega) hn).mp (by rw[e1,e2,e])
theorem Ord.lt{m:Nat}{p:Array Nat}(h:Ord n m p)(hm:m<=n){i:Nat}(hi:i<m):p.getD i 0<m:=by
 by_cases hc:p.getD i 0<m
 ·exact hc
 ·have hs:=h.size;have hb:p.getD i 0<n:=by have e1:=Zi12 (p:=p) (i:=i) (by omega);rw[<- YV]at e1;exact YD.mp ((Y1a.mp h.perm).mem_iff.mp (Yy6 e1))
  have e:=h.inj (by omega) hb (h.suf _ (by omega) hb).symm;omega
theorem Ord.mono{m k:Nat}{p:Array Nat}(h:Ord n m p)(hk:m<=k):Ord n k p:=⟨h.perm,fun i hi=>h.suf i (by omega)⟩
theorem Zq2{p:Array Nat}{i j k:Nat}(hj:j<=p.size):(kas_rev p i j).getD k 0=if i<=k/\k<j then p.getD (i+j - 1 - k) 0 else p.getD k 0:=by unfold kas_rev;rw[Yv,getElem?_mirror_all hj,apply_ite (fun o:Option Nat=>o.getD 0),<- Yv,<- Yv]
theorem Ord.rev{m i j:Nat}{p:Array Nat}(h:Ord n m p)(hj:j<=m)(hm:m<=n):Ord n m (kas_rev p i j):=by have hs:=h.size;refine⟨(mirror_perm _ _ _ _).trans h.perm,fun k hk hn=>?_⟩;rw[Zq2 (by omega),if_neg (by omega)];exact h.suf k hk hn
def Asc(key:Nat->Int)(m:Nat)(p:Array Nat):Prop:=∀ i j,i<j->j<m->Ahd key (p.getD i 0) (p.getD j 0)
theorem Asc.more{m:Nat}{p:Array Nat}(hm:1<=m)(h:Asc key m p)(h2:Ahd key (p.getD (m - 1) 0) (p.getD m 0)):Asc key (m+1) p:=fun i j hij hj=>by
 by_cases e:j=m
 ·subst e;by_cases e2:i=j - 1
  ·rw[e2];exact h2
  ·exact(h i (j - 1) (by omega) (by omega)).trans h2
 ·exact h i j hij (by omega)
theorem Zn10:∀(f m:Nat) (p:Array Nat),m+f=n->1<=m->Ord n m p->Asc key m p->∃ k,goT (fun i j=>decide (key i<key j)) (kas_asc p f m)=k/\m<=k/\k<=n/\Asc key k p/\(k<n->key (p.getD k 0)<key (p.getD (k - 1) 0))
 | 0,m,p,hf,h1,ho,ha=>⟨m,rfl,Yy7 _,by omega,ha,fun h=>by omega⟩
 | f+1,m,p,hf,h1,ho,ha=>by
  show ∃ k,goT _ (if decide (key (p.getD m 0)<key (p.getD (m - 1) 0))=true then KasT.ret m else kas_asc p f (m+1))=k/\_;by_cases hc:key (p.getD m 0)<key (p.getD (m - 1) 0)
  ·rw[if_pos (Yl hc)];exact⟨m,rfl,Yy7 _,by omega,ha,fun _=>hc⟩
  ·rw[if_neg (fun z=>hc (Yt z))];have e:=ho.suf m (Yy7 _) (by omega)
   have l:=ho.lt (by omega) (i:=m - 1) (by omega);obtain⟨k,e1,e2,e3,e4,e5⟩:=Zn10 f (m+1) p (by omega) (by omega) (ho.mono (by omega)) (ha.more h1 (by unfold Ahd;rw[e]at hc ⊢;omega));exact⟨k,e1,by omega,e3,e4,e5⟩
structure Dsc (key:Nat->Int) (m g:Nat) (p:Array Nat):Prop where
 le:g+1<=m
 old:∀ i j,i<j->j<m - (g+1)->Ahd key (p.getD j 0) (p.getD i 0)
 mid:∀ i j,i<m - (g+1)->m - (g+1)<=j->j<m->key (p.getD j 0)<key (p.getD i 0)
 own:∀ i j,m - (g+1)<=i->i<j->j<m->key (p.getD i 0)=key (p.getD j 0)/\p.getD i 0<p.getD j 0
def Fall(key:Nat->Int)(m:Nat)(p:Array Nat):Prop:=∀ i j,i<j->j<m->Ahd key (p.getD j 0) (p.getD i 0)
theorem Dsc.turn{m g:Nat}{p:Array Nat}(h:Dsc key m g p)(hs:m<=p.size):Fall key m (kas_rev p (m - (g+1)) m):=fun i j hij hj=>by
 have hl:=h.le;rw[Zq2 hs,Zq2 hs];by_cases c1:m - (g+1)<=j
 ·rw[if_pos ⟨c1,hj⟩];by_cases c2:m - (g+1)<=i
  ·rw[if_pos ⟨c2,by omega⟩];exact .inr (h.own (m - (g+1)+m - 1 - j) (m - (g+1)+m - 1 - i) (by omega) (by omega) (by omega))
  ·rw[if_neg (by omega)];exact .inl (h.mid i _ (by omega) (by omega) (by omega))
 ·rw[if_neg (by omega),if_neg (by omega)];exact h.old i j hij (by omega)
theorem Dsc.last{m g:Nat}{p:Array Nat}(h:Dsc key m g p)(hs:m<=p.size):key ((kas_rev p (m - (g+1)) m).getD (m - 1) 0)=key (p.getD (m - 1) 0):=by
 have hl:=h.le;rw[Zq2 hs,if_pos (by omega)];by_cases e:g=0
 ·congr 2;omega
 ·exact(h.own (m - (g+1)+m - 1 - (m - 1)) (m - 1) (by omega) (by omega) (by omega)).1
theorem Dsc.fall{m:Nat}{p:Array Nat}(h:Dsc key m 0 p):Fall key m p:=fun i j hij hj=>by
 have hl:=h.le;by_cases e:j<m - (0+1)
 ·exact h.old i j hij e
 ·exact .inl (h.mid i j (by omega) (by omega) hj)
theorem Fall.new{m:Nat}{p:Array Nat}(hm:1<=m)(h:Fall key m p)(hk:key (p.getD m 0)<key (p.getD (m - 1) 0)):Dsc key (m+1) 0 p:=by
 refine⟨by omega,fun i j hij hj=>h i j hij (by omega),fun i j hi h1 h2=>?_,fun i j h1 h2 h3=>by omega⟩;have e:j=m:=by omega
 subst e;by_cases c:i=j - 1
 ·rw[c];exact hk
 ·have:=h i (j - 1) (by omega) (by omega)
  unfold Ahd at this;omega
theorem Fall.rev{m:Nat}{p:Array Nat}(h:Fall key m p)(hs:m<=p.size):Asc key m (kas_rev p 0 m):=fun i j hij hj=>by rw[Zq2 hs,Zq2 hs,if_pos ⟨Yj _,by omega⟩,if_pos ⟨Yj _,hj⟩];exact h _ _ (by omega) (by omega)
theorem Asc.rev{m:Nat}{p:Array Nat}(h:Asc key m p)(hs:m<=p.size):Fall key m (kas_rev p 0 m):=fun i j hij hj=>by rw[Zq2 hs,Zq2 hs,if_pos ⟨Yj _,hj⟩,if_pos ⟨Yj _,by omega⟩];exact h _ _ (by omega) (by omega)
theorem ZJ4:∀(f m g:Nat) (p:Array Nat),m+f=n->Ord n m p->Dsc key m g p->∃ p' m' g',goT (fun i j=>decide (key i<key j)) (kas_desc f p m g)=(p',m',g')/\m<=m'/\m'<=n/\Ord n m' p'/\Dsc key m' g' p'
 | 0,m,g,p,hf,ho,hd=>⟨p,m,g,rfl,Yy7 _,by omega,ho,hd⟩
 | f+1,m,g,p,hf,ho,hd=>by
  have hl:=hd.le;have hs:=ho.size
  have em:=ho.suf m (Yy7 _) (by omega);have ll:=ho.lt (by omega) (i:=m - 1) (by omega)
  show ∃ p' m' g',goT _ (if decide (key (p.getD m 0)<key (p.getD (m - 1) 0))=true then (if g > 0 then kas_desc f (kas_rev p (m - (g+1)) m) (m+1) 0 else kas_desc f p (m+1) 0) else KasT.ask (p.getD (m - 1) 0) (p.getD m 0) fun d=>if d=true then .ret (p,m,g) else kas_desc f p (m+1) (g+1))=_/\_;by_cases hc:key (p.getD m 0)<key (p.getD (m - 1) 0)
  ·rw[if_pos (Yl hc)];by_cases hg:g > 0
   ·rw[if_pos hg];have hr:=ho.rev (i:=m - (g+1)) (Yy7 m) (by omega)
    have em2:=hr.suf m (Yy7 _) (by omega);obtain⟨p',m',g',e1,e2,e3,e4,e5⟩:=ZJ4 f (m+1) 0 (kas_rev p (m - (g+1)) m) (by omega) (hr.mono (by omega)) ((hd.turn (by omega)).new (by omega) (by rw[hd.last (by omega),em2];rw[em]at hc;exact hc));exact⟨p',m',g',e1,by omega,e3,e4,e5⟩
   ·rw[if_neg hg];obtain rfl:g=0:=by omega
    obtain⟨p',m',g',e1,e2,e3,e4,e5⟩:=ZJ4 f (m+1) 0 p (by omega) (ho.mono (by omega)) (hd.fall.new (by omega) hc);exact⟨p',m',g',e1,by omega,e3,e4,e5⟩
  ·rw[if_neg (fun z=>hc (Yt z))];show ∃ p' m' g',goT _ (if decide (key (p.getD (m - 1) 0)<key (p.getD m 0))=true then KasT.ret (p,m,g) else kas_desc f p (m+1) (g+1))=_/\_
   by_cases hc2:key (p.getD (m - 1) 0)<key (p.getD m 0)
   ·rw[if_pos (Yl hc2)];exact⟨p,m,g,rfl,Yy7 _,by omega,ho,hd⟩
   ·rw[if_neg (fun z=>hc2 (Yt z))];have ek:key (p.getD (m - 1) 0)=key (p.getD m 0):=by omega
    obtain⟨p',m',g',e1,e2,e3,e4,e5⟩:=ZJ4 f (m+1) (g+1) p (by omega) (ho.mono (by omega)) ⟨by omega,fun i j h1 h2=>hd.old i j h1 (by omega),fun i j h1 h2 h3=>by
     by_cases c:j=m
     ·rw[c,<- ek];exact hd.mid i (m - 1) (by omega) (by omega) (by omega)
     ·exact hd.mid i j (by omega) (by omega) (by omega),fun i j h1 h2 h3=>by
     by_cases c:j=m
     ·rw[c];by_cases c2:i=m - 1
      ·rw[c2,em];rw[em]at ek;exact⟨ek,ll⟩
      ·have:=hd.own i (m - 1) (by omega) (by omega) (by omega)
       rw[em];rw[em]at ek;exact⟨this.1.trans ek,by omega⟩
     ·exact hd.own i j (by omega) h2 (by omega)⟩
    exact⟨p',m',g',e1,by omega,e3,e4,e5⟩
theorem Zz48{m:Nat}{p:Array Nat}(hm:1<=m)(hn:m<=n)(ho:Ord n m p)(hf:Fall key m p):∃ k p',goT (fun i j=>decide (key i<key j)) (kas_tail3 m n p)=(k,p')/\1<=k/\k<=n/\Ord n k p'/\Asc key k p':=by
 have hs:=ho.size;unfold kas_tail3;rw[ZK1];have hr:=ho.rev (i:=0) (Yy7 m) hn
 obtain⟨k,e1,e2,e3,e4,_⟩:=Zn10 (n - m) m (kas_rev p 0 m) (by omega) hm hr (hf.rev (by omega));rw[e1];exact⟨k,_,rfl,by omega,e3,hr.mono e2,e4⟩
theorem Zh8{m:Nat}{p:Array Nat}(hm:1<=m)(hn:m<n)(ho:Ord n m p)(hf:Fall key m p)(hk:key (p.getD m 0)<key (p.getD (m - 1) 0)):∃ k p',goT (fun i j=>decide (key i<key j)) (kas_descPart m n p)=(k,p')/\1<=k/\k<=n/\Ord n k p'/\Asc key k p':=by
 unfold kas_descPart;rw[ZK1];obtain⟨p',m',g',e1,e2,e3,e4,e5⟩:=ZJ4 (n - (m+1)) (m+1) 0 p (by omega) (ho.mono (by omega)) (hf.new hm hk);rw[e1];have hs:=e4.size
 show ∃ k q,goT _ (if g' > 0 then kas_tail3 m' n (kas_rev p' (m' - (g'+1)) m') else kas_tail3 m' n p')=_/\_;by_cases hg:g' > 0
 ·rw[if_pos hg];exact Zz48 (by omega) e3 (e4.rev (Yy7 _) e3) (e5.turn (by omega))
 ·rw[if_neg hg];obtain rfl:g'=0:=by omega
  exact Zz48 (by omega) e3 e4 e5.fall
theorem Zb10{p:Array Nat}(hn:1<=n)(ho:Ord n 1 p):∃ k p',goT (fun i j=>decide (key i<key j)) (kas_count n p)=(k,p')/\1<=k/\k<=n/\Ord n k p'/\Asc key k p':=by
 unfold kas_count;rw[ZK1];obtain⟨k,e1,e2,e3,e4,e5⟩:=Zn10 (key:=key) (n - 1) 1 p (by omega) (Yy7 _) ho fun i j h1 h2=>by omega
 rw[e1];have hs:=ho.size
 have hk:=ho.mono e2;by_cases c:k=n
 ·rw[if_pos (by rw[c];exact Y2F n)];exact⟨k,p,rfl,e2,e3,hk,e4⟩
 ·rw[if_neg (fun z=>c (Yy16.mp z))];have hlt:k<n:=by omega
  have h5:=e5 hlt;by_cases c1:k > 1
  ·rw[if_pos c1];show ∃ k' p',goT _ (if decide (key (p.getD 0 0)<key (p.getD (k - 1) 0))=true then KasT.ret (k,p) else kas_descPart k n (kas_rev p 0 k))=_/\_
   by_cases c2:key (p.getD 0 0)<key (p.getD (k - 1) 0)
   ·rw[if_pos (Yl c2)];exact⟨k,p,rfl,e2,e3,hk,e4⟩
   ·rw[if_neg (fun z=>c2 (Yt z))];have a0:=e4 0 (k - 1) (by omega) (by omega)
    have eq:key (p.getD 0 0)=key (p.getD (k - 1) 0):=by unfold Ahd at a0;omega
    have hr:=hk.rev (i:=0) (Yy7 k) (by omega);refine Zh8 e2 hlt hr (e4.rev (by omega)) ?_;rw[Zq2 (by omega),Zq2 (by omega),if_neg (by omega),if_pos (by omega),show 0+k - 1 - (k - 1)=0 by omega,eq];exact h5
  ·rw[if_neg c1];obtain rfl:k=1:=by omega
   exact Zh8 (Yy7 _) hlt hk (fun i j h1 h2=>by omega) h5
theorem ZQ3{p:Array Nat}{k:Nat}(hk:Asc key k p):∀(f l r:Nat),r - l<=f->l<=r->r<=k->(∀ i,i<l->¬ key (p.getD k 0)<key (p.getD i 0))->(∀ i,r<=i->i<k->key (p.getD k 0)<key (p.getD i 0))->∃ l',goT (fun i j=>decide (key i<key j)) (kas_place p k f l r)=l'/\l'<=k/\(∀ i,i<l'->¬ key (p.getD k 0)<key (p.getD i 0))/\(∀ i,l'<=i->i<k->key (p.getD k 0)<key (p.getD i 0))
 | 0,l,r,hf,h1,h2,ha,hb=>⟨l,rfl,by omega,ha,fun i hi=>hb i (by omega)⟩
 | f+1,l,r,hf,h1,h2,ha,hb=>by
  have mono:∀ i j,i<=j->j<k->key (p.getD i 0)<=key (p.getD j 0):=fun i j hij hj=>by
   by_cases e:i=j
   ·rw[e];exact Y0v _
   ·have:=hk i j (by omega) hj
    unfold Ahd at this;omega
  unfold kas_place;by_cases c:l >= r
  ·rw[if_pos c];exact⟨l,rfl,by omega,ha,fun i hi=>hb i (by omega)⟩
  ·rw[if_neg c];show ∃ l',goT _ (if decide (key (p.getD k 0)<key (p.getD ((l+r) / 2) 0))=true then kas_place p k f l ((l+r) / 2) else kas_place p k f ((l+r) / 2+1) r)=l'/\_
   by_cases c2:key (p.getD k 0)<key (p.getD ((l+r) / 2) 0)
   ·rw[if_pos (Yl c2)];exact ZQ3 hk f l ((l+r) / 2) (by omega) (by omega) (by omega) ha fun i hi hik=>by
     have:=mono ((l+r) / 2) i hi hik
     omega
   ·rw[if_neg (fun z=>c2 (Yt z))];exact ZQ3 hk f ((l+r) / 2+1) r (by omega) (by omega) (by omega) (fun i hi=>by
     have:=mono i ((l+r) / 2) (by omega) (by omega)
     omega) hb
theorem Zj10{p:Array Nat}{k d x:Nat}(hk:k<p.size)(hd:d<=k):(bubble p k d).getD x 0=if x=k - d then p.getD k 0 else if k - d<x/\x<=k then p.getD (x - 1) 0 else p.getD x 0:=by rw[Yv,getElem?_bubble hk d hd,apply_ite (fun o:Option Nat=>o.getD 0),apply_ite (fun o:Option Nat=>o.getD 0),<- Yv,<- Yv,<- Yv]
theorem Zz812:∀(f k:Nat) (p:Array Nat),k+f=n->Ord n k p->Asc key k p->∃ p',goT (fun i j=>decide (key i<key j)) (kas_bin f p k)=p'/\Ord n n p'/\Asc key n p'
 | 0,k,p,hf,ho,ha=>by
  obtain rfl:k=n:=by omega
  exact⟨p,rfl,ho,ha⟩
 | f+1,k,p,hf,ho,ha=>by
  have hs:=ho.size;have ek:=ho.suf k (Yy7 _) (by omega)
  unfold kas_bin;rw[ZK1];obtain⟨l,e1,e2,e3,e4⟩:=ZQ3 ha k 0 k (by omega) (by omega) (Yy7 _) (fun i hi=>by omega) fun i hi hi2=>by omega
  rw[e1];refine Zz812 f (k+1) (bubble p k (k - l)) (by omega) ⟨(bubble_perm _ _ _).trans ho.perm,fun i hi hn=>?_⟩ fun i j hij hj=>?_
  ·rw[Zj10 (by omega) (by omega),if_neg (by omega),if_neg (by omega)];exact ho.suf i (by omega) hn
  ·have low:∀ x,x<k->p.getD x 0<k:=fun x hx=>ho.lt (by omega) hx;rw[Zj10 (by omega) (by omega),Zj10 (by omega) (by omega)];have ekl:k - (k - l)=l:=by omega
   rw[ekl];by_cases c1:i=l
   ·rw[if_pos c1,if_neg (by omega),if_pos (by omega)];exact .inl (e4 (j - 1) (by omega) (by omega))
   ·rw[if_neg c1];by_cases c2:j=l
    ·rw[if_pos c2,if_neg (by omega)];have a:=e3 i (by omega)
     have b:=low i (by omega);rw[ek]at a ⊢;unfold Ahd;omega
    ·rw[if_neg c2];by_cases c3:l<i
     ·rw[if_pos ⟨c3,by omega⟩,if_pos ⟨by omega,by omega⟩];exact ha _ _ (by omega) (by omega)
     ·rw[if_neg (by omega)];by_cases c4:l<j
      ·rw[if_pos ⟨c4,by omega⟩];exact ha _ _ (by omega) (by omega)
      ·rw[if_neg (by omega)];exact ha _ _ hij (by omega)
theorem sort_go(hn:1<=n):∃ p,goT (fun i j=>decide (key i<key j)) (kas_sort n)=p/\p.toList.Perm (List.range n)/\p.toList.Pairwise (Ahd key):=by
 have fin:∀ p,Ord n n p->Asc key n p->p.toList.Perm (List.range n)/\p.toList.Pairwise (Ahd key):=fun p ho ha=>by
  have hs:=ho.size;refine⟨Y1a.mp ho.perm,Yy00.mpr fun i j hi hj hij=>?_⟩;rw[YN]at hi hj
  have:=ha i j hij (by omega)
  rw[Yv,Yv,YH hi,YH hj]at this;exact this
 unfold kas_sort;rw[ZK1];obtain⟨k,p,e1,e2,e3,e4,e5⟩:=Zb10 (key:=key) hn (p:=(List.range n).toArray) ⟨Array.Perm.refl _,fun i _ hi=>by simp[Array.getD,hi]⟩;rw[e1];show ∃ q,goT _ (if k<n then kas_bin (n - max k 1) p (max k 1) else .ret p)=q/\_
 by_cases c:k<n
 ·rw[if_pos c,Nat.max_eq_left e2];obtain⟨q,h1,h2,h3⟩:=Zz812 (n - k) k p (by omega) e4 e5;exact⟨q,h1,fin q h2 h3⟩
 ·rw[if_neg c];obtain rfl:k=n:=by omega
  exact⟨p,rfl,fin p e4 e5⟩
end
end My
namespace L2
open PySem PySem.Spec PyProof.Rows
def Zz112(P:Program)(w:World)(K:PySem.W.Frag)(mg:Str->Option Value)(base:Heap)(N:List Str)(qual:Str)(scope:Scope)(f:Addr)(cd:Value)(cl:List (Str × Addr))(A:Around)(outer:List Env)(s:Shared)(H:Hp):Cx where
 prog:=P
 w:=w
 K:=K
 mg:=mg
 base:=base
 A:=A.deeper (PySem.W.envX qual scope s.heap.objs.size f cd cl)
 N:=N
 s₀:=s
 H₀:=H
 env:=PySem.W.envX qual scope s.heap.objs.size f cd cl
 outer:=outer
 stack:=PySem.W.envX qual scope s.heap.objs.size f cd cl :: outer
 ex:=[]
 calm:=true
 fn:=fun _=>false
 pn:=[]
 xe:=fun _ _=>False
structure LamScope (v x:Str) (sc:Scope):Prop where
 kind:sc.kind=.function
 co:sc.isCoroutine=false
 gen:sc.isGenerator=false
 nocell:∀ y∈sc.names,y.2≠.cell
 par:sc.names.lookup v=some .local
 free:sc.names.lookup x=some .free
 only:∀ y,sc.names.lookup y=some .free->y=x
 ne:v≠x
section
variable{P:Program}{w:World}{K:PySem.W.Frag}{mg:Str->Option Value}{base:Heap}{qual name v x:Str}{scope:Scope}{f c c':Addr}{cd pm ctv u ux:Value}{A:Around}{outer:List Env}{s:Shared}{H:Hp}{vv vx:V}{params:Arguments}{body:Expr}{k:Nat}{t:TE}{Q:VK}
theorem ZT2{y:Str}{c2:Addr}(h:List.lookup y [(x,c)]=some c2):y=x/\c2=c:=by
 unfold List.lookup at h;split at h
 ·rename_i e;exact⟨Yy16.mp e,(Yc h).symm⟩
 ·cases h
theorem ZE11(S:LamScope v x scope)(hd:A.handled=none)(e0:Env0 P w K mg base A outer s H)(hc:s.heap.IsCell c (some ux))(rx:RelV vx ux)(hfc:H c=none)(rv:RelV vv u){h1:Heap}{tk:Nat}
  (hns:h1.Ns s.heap.objs.size fun y=>[(v,u)].reverse.lookup y) (hk:∀ b o,s.heap.get? b=some o->h1.get? b=some o) :
  Inv (Zz112 P w K mg base [v,x] qual scope f cd [(x,c)] A outer s H) [] [some vv,some vx] H { s with heap:=h1,toks:=tk }:=by
 have noA:∀ b:Addr,b∉(Zz112 P w K mg base [v,x] qual scope f cd [(x,c)] A outer s H).ex:=fun b z=>absurd (show b∈([]:List Addr) from z) (by simp);have hck:h1.IsCell c (some ux):=by obtain⟨o,e,d⟩:=hc;exact⟨o,hk _ _ e,d⟩
 have lk:List.lookup x [(x,c)]=some c:=by unfold List.lookup;rw[Y2F]
 refine⟨⟨e0.mod,S.kind,rfl,rfl,Yy7 _,fun y z c2 h1 h2=>?_,fun y hy=>?_,fun y c2 z _=>(nomatch z),fun _=>hd,Around.frames_deeper e0.frames,.inr ⟨rfl,rfl⟩,fun b z=>absurd z (noA b),e0.bs,e0.bsz,fun b _ _=>noA b,fun b z=>absurd z (noA b),e0.funs,e0.frf⟩,
  rfl,e0.bare,Un.kept hk,⟨_,hns,fun i y v' h1 h2 h3=>?_⟩,fun y c2 h=>?_,e0.hok.fresh (Yy7 _),fun y c2 h=>?_,fun p hp=>absurd (show p∈([]:List (Addr × Obj)) from hp) (by simp),e0.hok.kept hk,rfl⟩
 ·rw[(ZT2 h1).1,(ZT2 h2).1]
 ·have hy:scope.names.lookup y=some .cell\/scope.names.lookup y=some .free:=hy;rcases hy with hy | hy
  ·exact absurd rfl (S.nocell _ (Y0I hy))
  ·rw[S.only y hy];exact⟨c,lk⟩
 ·match i,h1,h2 with
  | 0,h1,h2 =>
   obtain rfl:v=y:=Yc h1;obtain rfl:vv=v':=Yc (Yc h2);refine⟨u,rv,.inl ⟨S.par,?_⟩⟩;show List.lookup v [(v,u)]=some u
   unfold List.lookup;rw[Y2F]
  | 1,h1,h2 =>
   obtain rfl:x=y:=Yc h1;obtain rfl:vx=v':=Yc (Yc h2);exact⟨ux,rx,.inr ⟨.inr S.free,c,lk,hck⟩⟩
  | i+2,h1,h2=>cases h1
 ·rw[(ZT2 h).2];exact⟨_,hck⟩
 ·rw[(ZT2 h).2];exact hfc
theorem Zy11(S:LamScope v x scope)(hr:Room (k+1) A)(e0:Env0 P w K mg base A outer s H)(ho:s.heap.get? f=some (PySem.W.kla_obj name qual params body scope [(x,c)] pm c' ctv))(hcd:s.heap.CodeRec (.ref c') qual)
  (hbind:bindArgs (PySem.W.kla_fn name qual params body scope [(x,c)] pm (.ref c') ctv) ⟨[u],[]⟩=pure [(v,u)]) (hc:s.heap.IsCell c (some ux)) (rx:RelV vx ux) (hfc:H c=none) (rv:RelV vv u)
  (hb:PE (Zz112 P w K mg base [v,x] qual scope f (.ref c') [(x,c)] A outer s H) body t) (hq:t [some vv,some vx] H Q) :
  codeAny (model P w) A (.call (.ref f) ⟨[u],[]⟩) (fun r s'=>∃ u',r=.ok (.ret u')/\CE outer P w H s Q u' s') s:=by
 have lim:s.heap.NoLimit:=e0.mod.nolimit.keeps fun b o e=>(e0.bs b o e).1;refine PySem.W.kla_callFunE hr.depth ho rfl S.co S.gen rfl hcd ?_;rw[hbind];refine Yn (wpAny_newFunctionEnv S.nocell (fun y hy=>?_) (fun h1 hns hsb=>⟨lim.fresh _ hsb,?_⟩) S.kind)
 ·rw[Yy1.mp hy];exact S.par
 have hk:∀ b o,s.heap.get? b=some o->h1.get? b=some o:=fun b o e=>hsb.extBut b o (Yu (Yp e)) (Yy5 _ e);have I:Inv (Zz112 P w K mg base [v,x] qual scope f (.ref c') [(x,c)] A outer s H) [] [some vv,some vx] H { s with heap:=h1,toks:=s.toks+[(v,u)].length }:=ZE11 S hr.hd e0 hc rx hfc rv hns hk
 refine PySem.W.kla_codeExpr (Y0O (hb [] _ _ H _ I hq) (fun u' s' h=>?_) fun e s' h=>False.elim h);obtain⟨y,H',J,r,q⟩:=h;exact⟨u',rfl,y,H',J.os,J.bare,J.base,J.hok,r,q⟩
end
end L2
namespace My
open PySem PySem.W PyProof.Rows
def Asks{α:Type}(n:Nat)(R:α->Prop):KasT α->Prop
 | .ret a=>R a
 | .ask i j k=>i<n/\j<n/\∀ b,Asks n R (k b)
theorem Asks.bind{α β:Type}{n:Nat}{R:α->Prop}{S:β->Prop}{f:α->KasT β}:∀ {t:KasT α},Asks n R t->(∀ a,R a->Asks n S (f a))->Asks n S (t.bind f)
 | .ret a,h,hf=>hf a h
 | .ask _ _ _,h,hf=>⟨h.1,h.2.1,fun b=>Asks.bind (h.2.2 b) hf⟩
theorem goT_wp'{α:Type}{n:Nat}{R:α->Prop}{c:Nat->Nat->Bool}{cmp:Nat->Nat->(Bool->Shared->Prop)->Shared->Prop}{J:Shared->Prop}(h:∀ i j C s,i<n->j<n->J s->(∀ s',J s'->C (c i j) s')->cmp i j C s){Q:α->Shared->Prop}:∀(t:KasT α) (s:Shared),Asks n R t->J s->(∀ s',J s'->Q (goT c t) s')->t.kasWp cmp Q s
 | .ret _,s,_,hs,q=>q s hs
 | .ask i j k,s,ha,hs,q=>h i j _ s ha.1 ha.2.1 hs fun s' hs'=>goT_wp' h (k (c i j)) s' (ha.2.2 _) hs' q
section
variable{n:Nat}
def Bd(n:Nat)(p:Array Nat):Prop:=p.Perm (List.range n).toArray
theorem Bd.lt{p:Array Nat}(h:Bd n p)(hn:1<=n)(i:Nat):p.getD i 0<n:=by
 by_cases hi:i<p.size
 ·have e1:=Zi12 (p:=p) hi;rw[<- YV]at e1;exact YD.mp ((Y1a.mp h).mem_iff.mp (Yy6 e1))
 ·rw[Yv,Y1q (by omega)];exact hn
theorem Bd.rev{p:Array Nat}(h:Bd n p)(i j:Nat):Bd n (kas_rev p i j):=(mirror_perm _ _ _ _).trans h
theorem Zz94(hn:1<=n){p:Array Nat}(hp:Bd n p):∀ f m:Nat,Asks n (fun _=>True) (kas_asc p f m)
 | 0,m=>trivial
 | f+1,m=>⟨hp.lt hn _,hp.lt hn _,fun b=>by
  cases b with
  | true=>exact trivial
  | false=>exact Zz94 hn hp f (m+1)⟩
theorem Zz02(hn:1<=n):∀(f:Nat) (p:Array Nat) (m q:Nat),Bd n p->Asks n (fun r=>Bd n r.1) (kas_desc f p m q)
 | 0,p,m,q,hp=>hp
 | f+1,p,m,q,hp=>⟨hp.lt hn _,hp.lt hn _,fun b=>by
  cases b with
  | true =>
   show Asks n _ (if q > 0 then kas_desc f (kas_rev p (m - (q+1)) m) (m+1) 0 else kas_desc f p (m+1) 0);split
   ·exact Zz02 hn f _ _ _ (hp.rev _ _)
   ·exact Zz02 hn f _ _ _ hp
  | false =>
   refine⟨hp.lt hn _,hp.lt hn _,fun d=>?_⟩;cases d with
   | true=>exact hp
   | false=>exact Zz02 hn f _ _ _ hp⟩
theorem Zd4(hn:1<=n){p:Array Nat}(hp:Bd n p)(m r:Nat):Asks n (fun z=>Bd n z.2) (kas_tail3 m r p) :=
 (Zz94 hn (hp.rev _ _) _ _).bind fun _ _=>hp.rev _ _
theorem Zk4(hn:1<=n){p:Array Nat}(hp:Bd n p)(m r:Nat):Asks n (fun z=>Bd n z.2) (kas_descPart m r p) :=
 (Zz02 hn _ p _ _ hp).bind fun z hz=>by
  split
  ·exact Zd4 hn (hz.rev _ _) _ _
  ·exact Zd4 hn hz _ _
theorem ZU6(hn:1<=n){p:Array Nat}(hp:Bd n p)(r:Nat):Asks n (fun z=>Bd n z.2) (kas_count r p) :=
 (Zz94 hn hp _ _).bind fun z _=>by
  split
  ·exact hp
  ·split
   ·refine⟨hp.lt hn _,hp.lt hn _,fun b=>?_⟩;cases b with
    | true=>exact hp
    | false=>exact Zk4 hn (hp.rev _ _) _ _
   ·exact Zk4 hn hp _ _
theorem Zz92(hn:1<=n){p:Array Nat}(hp:Bd n p)(k:Nat):∀ f l r:Nat,Asks n (fun _=>True) (kas_place p k f l r)
 | 0,l,r=>trivial
 | f+1,l,r=>by
  unfold kas_place;split
  ·exact trivial
  ·refine⟨hp.lt hn _,hp.lt hn _,fun b=>?_⟩;cases b with
   | true=>exact Zz92 hn hp k f _ _
   | false=>exact Zz92 hn hp k f _ _
theorem Zz47(hn:1<=n):∀(f:Nat) (p:Array Nat) (k:Nat),Bd n p->Asks n (fun z=>Bd n z) (kas_bin f p k)
 | 0,p,k,hp=>hp
 | f+1,p,k,hp=>(Zz92 hn hp k _ _ _).bind fun l _=>Zz47 hn f _ _ ((bubble_perm _ _ _).trans hp)
theorem sort_asks(hn:1<=n):Asks n (fun z=>Bd n z) (kas_sort n) :=
 (ZU6 hn (p:=(List.range n).toArray) (Array.Perm.refl _) n).bind fun z hz=>by
  split
  ·exact Zz47 hn _ _ _ hz
  ·exact hz
end
end My
namespace L2
open PySem PySem.Spec PyProof.Rows PySem.W
def Zp10(key:Int->Int)(ns ms:List Int):Prop:=∃ p:List Nat,p.Perm (List.range ns.length)/\p.Pairwise (My.Ahd fun i=>key (ns.getD i 0))/\ms=p.map fun i=>ns.getD i 0
section
variable{X:Cx}{pins:List (Addr × Obj)}{σ:St}{H:Hp}{s:Shared}{b:Addr}{o:Obj}
theorem Inv.pin1(I:Inv X pins σ H s)(F:FpOk X pins H b)(e:s.heap.get? b=some o)(hd:∀ v,o.data≠.cell v):Inv X (pins++[(b,o)]) σ H s:=I.pins_of fun p hp=>by
 rcases Yy9.mp hp with hp | hp
 ·exact I.pin p (Yd _ hp)
 ·rw[Yy1.mp hp];exact⟨e,F.1,F.2.1,F.2.2.1,hd⟩
theorem FpOk.more{pl:List (Addr × Obj)}(F:FpOk X pins H b)(hn:∀ p∈pl,p.1≠b):FpOk X (pins++pl) H b:=⟨F.1,F.2.1,F.2.2.1,F.2.2.2.1,F.2.2.2.2.1,fun p hp=>by
 rcases Yy9.mp hp with hp | hp
 ·exact F.2.2.2.2.2 p (Yk _ hp)
 ·rcases Yy9.mp hp with hp | hp
  ·exact F.2.2.2.2.2 p (Yd _ hp)
  ·exact hn p hp⟩
theorem Inv.changed{h':Heap}{t':Nat}(I:Inv X pins σ H s)(F:FpOk X pins H b)(k:∀ c o,c≠b->s.heap.get? c=some o->h'.get? c=some o):Inv X pins σ H { s with heap:=h',toks:=t' } :=
 I.turned k F.1 F.2.1 F.2.2.2.1 F.2.2.2.2.1 F.2.2.2.2.2
theorem Inv.adopt{u:HO}(I:Inv X pins σ H s)(hex:X.ex=[])(F:FpOk X pins H b)(new:ObjOk X.prog X.w (upd H b u) s.heap b u):Inv X pins σ (upd H b u) s:=by
 have f4:X.s₀.heap.objs.size<=b:=F.2.2.2.1.resolve_left (by rw[hex];simp);have hn:=F.1
 refine⟨I.ok,I.os,I.bare,⟨I.base.keep,I.base.slot,fun c o e n hc=>?_,I.base.there,fun c xs q=>?_,fun c o w q=>?_,fun c ps q=>?_⟩,I.loc,I.cell,?_,fun x c e=>?_,fun p hp=>?_,fun c w e=>?_,I.len⟩
 ·rw[Zc (Yu (Yq (Yp e) f4))];exact I.base.free c o e n hc
 ·have:=I.base.tups c xs q
  rw[Zc (Zb this hn)];exact this
 ·have:=I.base.frzs c o w q
  rw[Zc (Zb this hn)];exact this
 ·obtain⟨m,this⟩:=I.base.tbls c ps q;exact⟨m,by rw[Zc (Zb this hn)];exact this⟩
 ·rw[Zc (Yy03 F.2.1)];exact I.free
 ·rw[Zc (F.2.2.2.2.1 x c e)];exact I.freeC x c e
 ·have:=I.pin p hp
  exact⟨this.1,by rw[Zc (F.2.2.2.2.2 p hp)];exact this.2.1,this.2.2⟩
 ·by_cases hb:c=b
  ·subst hb;rw[Zz1]at e;cases e;exact new
  ·rw[Zc hb]at e;exact(I.hok c w e).stay (fun _ _ _ q=>q) (fun d q=>by rw[Zc (Zb q hn)];exact q) fun d xs q=>by rw[Zc (Zb q hn)];exact q
end
section
variable{X:Cx}{pins:List (Addr × Obj)}{σ:St}{H:Hp}{s:Shared}{a kS:Addr}{A:Around}{E:Value->Shared->Prop}{P:PySem.Fin->Shared->Prop}{kA:Array Value}{e e1:Nat}{f:Value}{key:Int->Int}{ns:List Int}{vs:List Value}
theorem Zm6 {st:SortSt} {out:List Value} (I:Inv X (pins++[(a,seqObj "list" #[] e1),(kS,seqObj "list" kA e)]) σ H s) (Fa:FpOk X pins H a) (Fk:FpOk X pins H kS) (hak:a≠kS) (hz:kA.size<64) (hfl:failedOf st=none)
  (hout:(arrOf st).map (·.2)=out.toArray) (hlen:out.length<64) (h:∀ s' m,Inv X pins σ H s'->s'.heap.get? a=some (seqObj "list" out.toArray m)->P (.done (.ret .none)) s') :
  wpAny (model X.prog X.w) A (ksk_tail a false e1 (.ref kS) st) P E s:=by
 have hsl:sizeLine=16777216:=Y0M;have pa:=(I.pin (a,seqObj "list" #[] e1) (by simp)).1
 have pk:=(I.pin (kS,seqObj "list" kA e) (by simp)).1;have I0:Inv X pins σ H s:=I.unpinned
 have pa1:(s.heap.update kS (Obj.mapSeq fun _=>(#[]:Array Value))).get? a=some (seqObj "list" #[] e1):=(YU _ _ (Yy03 hak)).trans pa;obtain⟨m,hm⟩:∃ m,((s.heap.update kS (Obj.mapSeq fun _=>(#[]:Array Value))).update a (Obj.mapSeq fun _=>out.toArray)).get? a=some (seqObj "list" out.toArray m):=⟨_,Y2Y pa1 fun _=>out.toArray⟩;unfold ksk_tail;dsimp only;rw[hout];refine Yy4 (Y1L pk rfl ?_ (by omega) (Yj _));refine Yy4 (Y2M ?_);refine Yy4 (seqEpoch_at pa1 rfl ?_);refine Yy4 (Y1L pa1 rfl ?_ (Yj _) (by simp;omega));rw[hfl];simp only [bne_self_eq_false,Y2n,if_false];refine Yn (h _ m ?_ hm);have I1:Inv X pins σ H { s with heap:=s.heap.update kS (Obj.mapSeq fun _=>(#[]:Array Value)),toks:=s.toks }:=I0.changed Fk fun c o hc q=>(YU _ _ (Yy03 hc)).trans q
 exact I1.changed (t':=s.toks) Fa fun c o hc q=>(YU _ _ (Yy03 hc)).trans q
theorem Zu4:∀ {vs:List Value} {ns:List Int},IntsAre vs ns->∀ i,i<ns.length->∃ t,vs[i]?=some (.int (ns.getD i 0) t)
 | _,_,.nil,i,h=>absurd h (Yy08 _)
 | _,_,.cons n t r,0,h=>⟨t,rfl⟩
 | _,_,.cons n t r,i+1,h=>Zu4 r i (by rw[YA]at h;omega)
theorem Zn6(hv:IntsAre vs ns)(hk:IntsAre kA.toList (ns.map key)){i:Nat}(hi:i<ns.length):∃ t u,kas_item (kA.zip vs.toArray) i=(.int (key (ns.getD i 0)) t,.int (ns.getD i 0) u):=by
 obtain⟨u,hu⟩:=Zu4 hv i hi;obtain⟨t,ht⟩:=Zu4 hk i (by rw[Yb];exact hi);have e:(ns.map key).getD i 0=key (ns.getD i 0):=by rw[Yy3,Ym,Yy3,Yy0 hi];rfl
 rw[e]at ht;refine⟨t,u,?_⟩;unfold kas_item;rw[Yv,<- YV,ksk_zip,(List.getElem?_zip_eq_some (z:=(Value.int (key (ns.getD i 0)) t,Value.int (ns.getD i 0) u))).mpr ⟨ht,hu⟩];rfl
theorem Zo6(hv:IntsAre vs ns)(hk:IntsAre kA.toList (ns.map key)):∀ l:List Nat,(∀ i∈l,i<ns.length)->IntsAre (l.map fun i=>(kas_item (kA.zip vs.toArray) i).2) (l.map fun i=>ns.getD i 0)
 | [],_=>.nil
 | i :: l,h=>by
  obtain⟨t,u,e⟩:=Zn6 hv hk (h i Ye);have r:=Zo6 hv hk l fun j hj=>h j (Yg _ hj)
  rw[YI,YI,e];exact .cons _ u r
theorem Yz11 (I:Inv X (pins++[(a,seqObj "list" #[] e1),(kS,seqObj "list" kA e)]) σ H s) (Fa:FpOk X pins H a) (Fk:FpOk X pins H kS) (hak:a≠kS) (hv:IntsAre vs ns) (h64:ns.length<64) (hk:IntsAre kA.toList (ns.map key))
  (h:∀ s' m out ms,Inv X pins σ H s'->s'.heap.get? a=some (seqObj "list" out m)->IntsAre out.toList ms->Zp10 key ns ms->P (.done (.ret .none)) s') :
  wpAny (model X.prog X.w) A (ksk_end a false vs.toArray e1 (.ref kS) kA) P E s:=by
 have hvl:=hv.length;have hkl:=hk.length
 rw[YN,Yb]at hkl;have hzs:(kA.zip vs.toArray).size=ns.length:=by rw[Array.size_zip,show vs.toArray.size=vs.length from Ya];omega
 unfold ksk_end;dsimp only;rw[if_neg (by decide)];by_cases h2:vs.toArray.size<2
 ·rw[if_pos h2,if_pos h2];rw[Ya]at h2;refine Yy4 (Yn ?_);rw[StateT.run_pure];refine Yy4 (Yn ?_);dsimp only;refine Zm6 (out:=vs) I Fa Fk hak (by omega) rfl ?_ (by omega) fun s' m J e=>h s' m vs.toArray ns J e (by simpa using hv) ?_
  ·show(if false=true then (kA.zip vs.toArray).reverse else kA.zip vs.toArray).map (·.2)=vs.toArray;rw[if_neg (by decide),Array.map_snd_zip (by rw[Ya];omega)]
  ·refine⟨List.range ns.length,List.Perm.refl _,?_,?_⟩
   ·match ns.length,(show ns.length<2 by omega) with
    | 0,_=>exact List.Pairwise.nil
    | 1,_=>exact Y0b _ _
   ·match ns,(show ns.length<2 by omega) with
    | [],_=>rfl
    | [x],_=>rfl
 ·rw[if_neg h2,if_neg h2];rw[Ya]at h2;rw[ksk_kind hk (by omega)];refine Yy4 (Yn ?_);rw[if_neg (by decide)];obtain⟨p,hp1,hp2,hp3⟩:=My.sort_go (n:=ns.length) (key:=fun i=>key (ns.getD i 0)) (by omega);have runs:=kas_runs (prog:=X.prog) (w:=X.w) (A:=A) (E:=E) (κ:=oneType') (it:=kA.zip vs.toArray) (n:=ns.length) (s:=s) (Q:=fun _ st s'=>s'=s/\failedOf st=none/\arrOf st=p.map (kas_item (kA.zip vs.toArray)))
   (G:=fun q s'=>s'=s/\q=p) (by omega) h64 (fun q st s' _ e2 e3 e4=>⟨e4.1,e3,by rw[e2,e4.2]⟩)
   (My.goT_wp' (c:=fun i j=>decide (key (ns.getD i 0)<key (ns.getD j 0))) (J:=fun s'=>s'=s) (fun i j C s' hi hj hs hC=>by obtain⟨t,u,e⟩:=Zn6 hv hk hi;obtain⟨t',u',e'⟩:=Zn6 hv hk hj;unfold kas_cmp;rw[e,e'];exact kat_lt_int (hC s' hs)) _ s (My.sort_asks (by omega)) rfl fun s' hs=>⟨hs,hp1⟩)
  unfold kasC kas_st at runs;rw[<- hzs,kas_range]at runs;refine Yy4 (Y0O runs ?_ fun _ _ z=>z);rintro⟨⟨⟩,st⟩ s' ⟨rfl,hf,ha⟩;dsimp only;have hb:∀ i∈p.toList,i<ns.length:=fun i hi=>YD.mp (hp2.mem_iff.mp hi)
  have hpl:p.toList.length=ns.length:=by rw[hp2.length_eq,YX]
  refine Zm6 (out:=p.toList.map fun i=>(kas_item (kA.zip vs.toArray) i).2) I Fa Fk hak (by omega) hf ?_ (by rw[Yb];omega) fun s'' m J e=>h s'' m _ _ J e (by simpa using Zo6 hv hk p.toList hb) ⟨p.toList,hp2,hp3,rfl⟩;have ha:arrOf st=p.map (kas_item (kA.zip vs.toArray)):=ha
  rw[ha,Array.map_map];exact Array.toList_inj.mp (by simp)
theorem ZK9 (I:Inv X (pins++[(a,seqObj "list" #[] e1),(kS,seqObj "list" #[] 0)]) σ H s) (Fa:FpOk X pins H a) (Fk:FpOk X pins H kS) (hak:a≠kS) (hv:IntsAre vs ns) (h64:ns.length<64)
  (turn:∀(pl:List (Addr × Obj)) (z:Int) (t:Tok) (s':Shared),z∈ns->Inv X (pins++pl) σ H s'->wpAny (model X.prog X.w) A (call f [.int z t]) (fun v s''=>∃ t',v=.int (key z) t'/\Inv X (pins++pl) σ H s'') (fun _ _=>False) s')
  (h:∀ s' m out ms,Inv X pins σ H s'->s'.heap.get? a=some (seqObj "list" out m)->IntsAre out.toList ms->Zp10 key ns ms->P (.done (.ret .none)) s') :
  wpAny (model X.prog X.w) A (ksk_rest a f false vs.toArray e1 (.ref kS)) P E s:=by
 have hsl:sizeLine=16777216:=Y0M;have hvl:=hv.length
 unfold ksk_rest;refine Yy4 (wpAny_rule ?_);rw[<- Array.forIn_toList];simp only [List.toList_toArray];refine Yy4 (ksk_fold (fun i s'=>∃(kA:Array Value) (e:Nat),Inv X (pins++[(a,seqObj "list" #[] e1),(kS,seqObj "list" kA e)]) σ H s'/\IntsAre kA.toList ((ns.take i).map key)) vs 0 s ⟨#[],0,I,by simpa using IntsAre.nil⟩ ?step ?done)
 case step =>
  rintro j x s' hx ⟨kA,e,J,hk⟩;rw[Y1m]at hk ⊢;have hj:j<ns.length:=by rw[<- hvl];exact(Yy2.mp hx).1
  obtain⟨t,ht⟩:=Zu4 hv j hj;rw[hx]at ht;obtain rfl:=Yc ht;have hz:kA.size<=j:=by have h1:=hk.length;rw[YN,Yb,Yz]at h1;omega
  have eg:ns.getD j 0=ns[j]:=by rw[Yy3,Yy0 hj];rfl
  have hmem:ns.getD j 0∈ns:=by rw[eg];exact Y0j hj
  refine Yy4 (Y2g (Y0O (turn _ _ t s' hmem J) (fun v s'' he=>?_) fun _ _ hF=>hF.elim));obtain⟨t2,rfl,J2⟩:=he;dsimp only;have pk:=(J2.pin (kS,seqObj "list" kA e) (by simp)).1
  obtain⟨c2,hc2⟩:∃ c2,(s''.heap.update kS (Obj.mapSeq (·.push (.int (key (ns.getD j 0)) t2)))).get? kS=some (seqObj "list" (kA.push (.int (key (ns.getD j 0)) t2)) c2):=⟨_,Y2Y pk (·.push (.int (key (ns.getD j 0)) t2))⟩;refine Yy4 (Y1L pk rfl ?_ (by omega) (by rw[Array.size_push];omega));refine Yn ⟨rfl,kA.push (.int (key (ns.getD j 0)) t2),c2,?_,?_⟩
  ·have J3:Inv X (pins++[(a,seqObj "list" #[] e1)]) σ H s'':=J2.pins_of fun p hp=>J2.pin p (Yd _ (by
    rcases Yy9.mp hp with hp | hp
    ·exact Yk _ hp
    ·exact Yd _ (by rw[Yy1.mp hp];exact Ye)))
   have Fk2:FpOk X (pins++[(a,seqObj "list" #[] e1)]) H kS:=Fk.more fun p hp=>by rw [Yy1.mp hp];exact hak
   have J4:=(J3.changed (t':=s''.toks) Fk2 fun c o hc q=>(YU s''.heap (Obj.mapSeq (·.push (.int (key (ns.getD j 0)) t2))) (Yy03 hc)).trans q).pin1 Fk2 hc2 fun v z=>by cases z
   rw[Y0f]at J4;exact J4
  ·have ek:(ns.take (j+1)).map key=(ns.take j).map key++[key (ns.getD j 0)]:=by rw[List.take_add_one,Yy0 hj,YE,eg];rfl
   rw[Y2y,ek];exact ksk_snoc hk
 case done =>
  rintro s' ⟨kA,e,J,hk⟩;rw[Y1m,hvl,YG]at hk;have pk:=(J.pin (kS,seqObj "list" kA e) (by simp)).1
  refine Yy4 (listItems_at pk rfl ?_);exact Yz11 J Fa Fk hak hv h64 hk h
theorem ZJ9 {n:Nat} (I:Inv X pins σ H s) (Fa:FpOk X pins H a) (ho:s.heap.get? a=some (seqObj "list" vs.toArray n)) (hv:IntsAre vs ns) (h64:ns.length<64)
  (turn:∀(pl:List (Addr × Obj)) (z:Int) (t:Tok) (s':Shared),z∈ns->Inv X (pins++pl) σ H s'->wpAny (model X.prog X.w) A (call f [.int z t]) (fun v s''=>∃ t',v=.int (key z) t'/\Inv X (pins++pl) σ H s'') (fun _ _=>False) s')
  (h:∀ s' m out ms,Inv X pins σ H s'->s'.heap.get? a=some (seqObj "list" out m)->IntsAre out.toList ms->Zp10 key ns ms->P (.done (.ret .none)) s') :
  wpAny (model X.prog X.w) A (ksk_tree a f false) P E s:=by
 have hsl:sizeLine=16777216:=Y0M;have hvl:=hv.length
 obtain⟨e1,ho1⟩:∃ e1,(s.heap.update a (Obj.mapSeq fun _=>(#[]:Array Value))).get? a=some (seqObj "list" #[] e1):=⟨_,Y2Y ho fun _=>#[]⟩;have I1:Inv X pins σ H { s with heap:=s.heap.update a (Obj.mapSeq fun _=>(#[]:Array Value)),toks:=s.toks }:=I.changed Fa fun c o hc q=>(YU _ _ (Yy03 hc)).trans q
 have I2:Inv X pins σ H { s with heap:=(s.heap.update a (Obj.mapSeq fun _=>(#[]:Array Value))).push (seqObj "tuple" vs.toArray 0),toks:=s.toks }:=I1.kept fun c o q=>Yy5 _ q;have ho2:((s.heap.update a (Obj.mapSeq fun _=>(#[]:Array Value))).push (seqObj "tuple" vs.toArray 0)).get? a=some (seqObj "list" #[] e1):=Yy5 _ ho1
 unfold ksk_tree;refine Yy4 (listItems_at ho rfl ?_);refine Yy4 (Y1L ho rfl ?_ (by rw[Ya];omega) (Yj _));refine Yy4 (seqEpoch_at ho1 rfl ?_);refine Yy4 (wpAny_newTuple ?_ (by show vs.length<=_;omega));refine Yy4 (Y1T ?_ (Yj _));refine Y0G ?_;have Fk:FpOk X pins H ((s.heap.update a (Obj.mapSeq fun _=>(#[]:Array Value))).push (seqObj "tuple" vs.toArray 0)).objs.size:=I2.fpOk (Yy7 _) (I2.hok.fresh (Yy7 _))
 have hak:a≠((s.heap.update a (Obj.mapSeq fun _=>(#[]:Array Value))).push (seqObj "tuple" vs.toArray 0)).objs.size:=Yu (Yp ho2);have I3:Inv X pins σ H { s with heap:=((s.heap.update a (Obj.mapSeq fun _=>(#[]:Array Value))).push (seqObj "tuple" vs.toArray 0)).push (seqObj "list" #[] 0),toks:=s.toks }:=I2.kept fun c o q=>Yy5 _ q
 have I4:=(I3.pin1 Fa (Yy5 _ ho2) fun v z=>by cases z).pin1 (Fk.more (pl:=[(a,seqObj "list" #[] e1)]) fun p hp=>by rw [Yy1.mp hp];exact hak) (Yo _ rfl) fun v z=>by cases z
 rw[Y0f]at I4;exact ZK9 I4 Fa Fk hak hv h64 turn h
theorem ZG5 {tp q:Addr} {ot:Obj} {m:Nat} {Q:Value->Shared->Prop} (I:Inv X pins σ H s) (ht:s.heap.get? tp=some ot) (hc:ot.cls=.type "tuple") (hd:ot.data=.seq vs.toArray m) (hv:IntsAre vs ns) (h64:ns.length<64)
  (turn:∀(pl:List (Addr × Obj)) (z:Int) (t:Tok) (s':Shared),z∈ns->Inv X (pins++pl) σ H s'->wpAny (model X.prog X.w) A.in1.in1 (call (.ref q) [.int z t]) (fun v s''=>∃ t',v=.int (key z) t'/\Inv X (pins++pl) σ H s'') (fun _ _=>False) s')
  (h:∀ s' a m out ms,FpOk X pins H a->Inv X pins σ H s'->s'.heap.get? a=some (seqObj "list" out m)->IntsAre out.toList ms->Zp10 key ns ms->Q (.ref a) s') :
  wpAny (model X.prog X.w) A (call (.builtin "sorted") [.ref tp] [(Str.ofString "key",.ref q)]) Q E s:=by
 have hsl:sizeLine=16777216:=Y0M;have hvl:=hv.length
 refine call_function_entry_kw kind_sorted plain_sorted entry_sorted (ksk_s1 _ _) ?_;unfold Builtin.«sorted»;refine Yy4 (m:=checkCount "sorted" 1 1 _) (Yn ?_);refine Yy4 (Zm5 ht hc hd (by omega) ?_);refine Yy4 (Y1T ?_ (by omega));have hsz:((s.heap.push (seqObj "list" #[] 0)).update s.heap.objs.size (Obj.mapSeq (·++vs.toArray))).objs.size=s.heap.objs.size+1:=by rw[Heap.size_update,size_push']
 have hoL:(((s.heap.push (seqObj "list" #[] 0)).update s.heap.objs.size (Obj.mapSeq (·++vs.toArray))).push (seqObj "list" vs.toArray 0)).get? (s.heap.objs.size+1)=some (seqObj "list" vs.toArray 0):=by rw[<- hsz];exact Yo _ rfl
 have keep:∀ b o,s.heap.get? b=some o->(((s.heap.push (seqObj "list" #[] 0)).update s.heap.objs.size (Obj.mapSeq (·++vs.toArray))).push (seqObj "list" vs.toArray 0)).get? b=some o:=fun b o q=>by have hlt:b<s.heap.objs.size:=Yp q;exact Yy5 _ ((YU _ _ (Y0K hlt)).trans (Yy5 _ q))
 show wpAny _ _ _ _ _ { s with heap:=((s.heap.push (seqObj "list" #[] 0)).update s.heap.objs.size (Obj.mapSeq (·++vs.toArray))).push (seqObj "list" vs.toArray 0) };rw[hsz];have Fa:FpOk X pins H (s.heap.objs.size+1):=I.fpOk (Y0P _) (I.hok.fresh (Y0P _))
 refine Yy4 (Y0G (wpAny_call_entry_kw slot_list_sort ⟨_,hoL,rfl⟩ entry_list_sort ?body (ksk_l1 _ _)));show wpAny (model X.prog X.w) A.in1.in1 (Builtin.«list.sort» ⟨[.ref (s.heap.objs.size+1)],[(Str.ofString "key",.ref q)]⟩) _ _ _
 rw[ksk_t1];refine ZJ9 (s:={ s with heap:=((s.heap.push (seqObj "list" #[] 0)).update s.heap.objs.size (Obj.mapSeq (·++vs.toArray))).push (seqObj "list" vs.toArray 0),toks:=s.toks }) (I.kept keep) Fa hoL hv h64 turn fun s' m out ms J e hi hs=>⟨_,rfl,?_⟩;exact Yn ⟨_,rfl,h s' _ m out ms Fa J e hi hs⟩
end
def CdO(c:Addr)(qual:Str):HO:=.ext fun h=>h.CodeRec (.ref c) qual
def TabH(H:Hp)(Pt:Addr)(pos:Pos)(qual:Str):Prop:=∃ ps:Array Value,H Pt=some (.tbl ps)/\TriplesOk ps.toList/\(codeAmong pos ps.toList=none\/∃ c,codeAmong pos ps.toList=some (.ref c)/\H c=some (CdO c qual))
def SameX(Pt:Addr)(H H':Hp):Prop:=∀ b o,b≠Pt->H b=some o->H' b=some o
theorem Zn2{c:Addr}{qual:Str}(h1 h2:Heap)(r:h1.CodeRec (.ref c) qual)(k:∀ o,h1.get? c=some o->h2.get? c=some o):h2.CodeRec (.ref c) qual:=by obtain⟨c2,o,vs,t,e,g,r⟩:=r;cases e;exact⟨c,o,vs,t,rfl,k _ g,r⟩
section
variable{X:Cx}{pins:List (Addr × Obj)}{σ:St}{H:Hp}{s:Shared}{c Pt cc:Addr}{x:Str}{params:Arguments}{body:Expr}{scope:Scope}{pos:Pos}{E:Value->Shared->Prop}{Q:Value->Shared->Prop}
theorem Inv.builtinsAt(I:Inv X pins σ H s)(hB:X.base.BuiltinsAt X.mg Pt):s.heap.BuiltinsAt X.mg Pt:=by obtain⟨bm,o,h1,h2,h3,h4,h5,h6⟩:=hB;exact⟨bm,o,h1,h2,h3,h4,I.bk _ _ h5,h6⟩
theorem ZI9 (I:Inv X pins σ H s) (hcode:X.env.code=.ref c) (hC:codeHdIn X.K c Pt=true) (hB:X.base.BuiltinsAt X.mg Pt) (hT:TabH H Pt pos (X.env.qual++Str.ofString "<lambda>")) (hcl:closureFor scope X.env=pure [(x,cc)]) (hdef:defaultsOf params X.env=([],[])) (hPg:mainGlobals≠Pt)
  (h:∀ f c' pm ctv s' H',SameX Pt H H'->TabH H' Pt pos (X.env.qual++Str.ofString "<lambda>")->FpOk X pins H' f->Inv X pins σ H' s'->s'.heap.get? f=some (kla_obj (Str.ofString "<lambda>") (X.env.qual++Str.ofString "<lambda>") params body scope [(x,cc)] pm c' ctv)->H' c'=some (CdO c' (X.env.qual++Str.ofString "<lambda>"))->Q (.ref f) s') :
  wpAny (model X.prog X.w) X.A (eval (.Lambda params body scope pos) X.env) Q E s:=by
 obtain⟨ps,hP,htr,hcase⟩:=hT;have hPo:s.heap.get? Pt=some (tabObj ps):=I.hok Pt _ hP
 have hns:s.heap.Ns mainGlobals X.mg:=I.mod.glob.keeps I.bk;have hHd:=codeHd_of_K I.kIn hC
 refine kla_eval hdef ?_;rcases hcase with hnf | ⟨c',hf,hc'⟩
 ·refine kla_makeFunction hcl I.ok.glob hns hcode hHd hPo htr hnf hPg (I.builtinsAt hB) fun c' ctv h' tk hx hge hlt hrec htb=>?_;have hPl:Pt<s.heap.objs.size:=Yp hPo
  have hcn:H c'=none:=I.hok.fresh hge;have hcP:c'≠Pt:=Y0K (Yq hPl hge)
  have keep:∀ b o,b≠Pt->s.heap.get? b=some o->(h'.push (kla_obj (Str.ofString "<lambda>") (X.env.qual++Str.ofString "<lambda>") params body scope [(x,cc)] ((X.mg "__name__").getD .none) c' ctv)).get? b=some o:=fun b o hb e=>Yy5 _ (hx b o hb e);have sx:SameX Pt H (upd (upd H Pt (.tbl (ps++#[rawInt pos.line,rawInt pos.col,.ref c']))) c' (CdO c' (X.env.qual++Str.ofString "<lambda>"))):=fun b o hb e=>by rw[Zc (Zb e hcn),Zc hb];exact e
  have tb:TabH (upd (upd H Pt (.tbl (ps++#[rawInt pos.line,rawInt pos.col,.ref c']))) c' (CdO c' (X.env.qual++Str.ofString "<lambda>"))) Pt pos (X.env.qual++Str.ofString "<lambda>"):=by
   have et:(ps++#[rawInt pos.line,rawInt pos.col,Value.ref c']).toList=ps.toList++[rawInt pos.line,rawInt pos.col,.ref c']:=by simp
   refine⟨ps++#[rawInt pos.line,rawInt pos.col,.ref c'],by rw[Zc (Yy03 hcP),Zz1],by rw[et];exact TriplesOk_snoc _ _ _ _ htr,.inr ⟨c',by rw[et];exact codeAmong_snoc _ htr hnf,Zz1⟩⟩
  have notP:∀ b,H b=none->b≠Pt:=fun b n z=>by rw[z,hP]at n;cases n
  refine h h'.objs.size c' _ ctv _ _ sx tb ?_ (I.un ⟨fun b o e n _ _=>keep b o (notP b n) e,fun b o e n _ _=>⟨o.slots,keep b o (notP b n) e⟩,fun b o e n _=>?_,fun b o e _=>?_,fun b xs e=>?_,fun b o u e=>?_,fun b qs e=>?_⟩ fun b u e=>?_) (Yo _ rfl) Zz1
  ·have hfs:s.heap.objs.size<=h'.objs.size:=by omega
   refine I.fpOk hfs ?_;rw[Zc (Y0K hlt),Zc (Y0K (Yq hPl hfs))];exact I.hok.fresh hfs
  ·rw[Zc (Yu (Yq (Yp e) hge)),Zc (notP b n)];exact n
  ·by_cases hb:b=Pt
   ·rw[hb];exact⟨_,Yy5 _ htb⟩
   ·exact⟨o,keep b o hb e⟩
  ·exact sx b _ (fun z=>by rw[z,hP]at e;cases e) e
  ·exact sx b _ (fun z=>by rw[z,hP]at e;cases e) e
  ·by_cases hb:b=Pt
   ·subst hb;rw[hP]at e;obtain rfl:ps=qs:=by cases e;rfl
    exact⟨#[rawInt pos.line,rawInt pos.col,.ref c'],by rw[Zc (Yy03 hcP),Zz1]⟩
   ·exact⟨#[],by rw[sx b _ hb e];simp⟩
  ·by_cases hb:b=c'
   ·subst hb;rw[Zz1]at e;cases e;refine⟨Zn2 _ _ hrec fun o g=>Yy5 _ g,?_,Zn2⟩;obtain⟨c2,o,_,_,e2,g,_⟩:=hrec;cases e2;exact⟨o,Yy5 _ g⟩
   ·rw[Zc hb]at e;by_cases hb2:b=Pt
    ·subst hb2;rw[Zz1]at e;cases e;exact Yy5 _ htb
    ·rw[Zc hb2]at e;refine(I.hok b u e).stay (fun d o hd g=>keep d o (fun z=>?_) g) (fun d g=>sx d _ (fun z=>by rw[z,hP]at g;cases g) g) fun d xs g=>sx d _ (fun z=>by rw[z,hP]at g;cases g) g;rcases hd with hd | hd
     ·exact hb2 (hd.symm.trans z)
     ·rw[z,hP]at hd;cases hd
 ·refine kla_makeFunctionHit hcl I.ok.glob hns hcode hHd hPo htr hf (I.builtinsAt hB) fun ctv h' tk hk hsz=>?_;refine h h'.objs.size c' _ ctv _ H (fun _ _ _ e=>e) ⟨ps,hP,htr,.inr ⟨c',hf,hc'⟩⟩ (I.fpOk hsz (I.hok.fresh hsz)) (I.kept fun b o e=>Yy5 _ (hk b o e)) (Yo _ rfl) hc'
end
def Zs12(K:PySem.W.Frag)(Pt:Addr)(lpos:Pos)(qual:Str)(i:Nat)(te tb:TE):TE:=fun σ H Q=>te σ H fun y H1=>∃(p:Addr) (ns:List Int) (vx:V) (key:Int->Int),y=.ref p/\SqT K H1 p (ns.map V.int)/\ns.length<64/\TabH H1 Pt lpos qual/\σ[i]?=some (some vx) /\
 (∀ H2,SameX Pt H1 H2->∀ z∈ns,tb [some (.int z),some vx] H2 fun r H3=>r=.int (key z)/\H3=H2) /\
 ∀(ms:List Int) (l:Addr) (H2:Hp),Zp10 key ns ms->SameX Pt H1 H2->TabH H2 Pt lpos qual->H2 l=none->Q (.ref l) (upd H2 l (.lst (ms.map V.int)))
section
variable{X:Cx}{p kp pos lpos:Pos}{e body:Expr}{params:Arguments}{scope:Scope}{te tb:TE}{v x:Str}{i k:Nat}{c Pt cc:Addr}
theorem SqT.samex{K:PySem.W.Frag}{H H2:Hp}{a:Addr}{xs:List V}{qual:Str}(h:SqT K H a xs)(t:TabH H Pt lpos qual)(sx:SameX Pt H H2):SqT K H2 a xs:=by
 obtain⟨ps,hP,_⟩:=t;rcases h with (h | ⟨o,h⟩) | h
 ·exact .inl (.inl (sx _ _ (fun z=>by rw[z,hP]at h;cases h) h))
 ·exact .inl (.inr ⟨o,sx _ _ (fun z=>by rw[z,hP]at h;cases h) h⟩)
 ·exact .inr h
theorem ZW5 (he:PE X e te) (hg:Gl X (Str.ofString "sorted")) (hm:X.mg (Str.ofString "sorted")=none) (hr:Room (k+3) X.A) (hex:X.ex=[]) (hcode:X.env.code=.ref c) (hC:codeHdIn X.K c Pt=true) (hB:X.base.BuiltinsAt X.mg Pt) (hPg:mainGlobals≠Pt)
  (S:LamScope v x scope) (hcl:closureFor scope X.env=pure [(x,cc)]) (hdef:defaultsOf params X.env=([],[])) (hbind:∀(c':Addr) (pm ctv u:Value),bindArgs (kla_fn (Str.ofString "<lambda>") (X.env.qual++Str.ofString "<lambda>") params body scope [(x,cc)] pm (.ref c') ctv) ⟨[u],[]⟩=pure [(v,u)])
  (hi:X.N[i]?=some x) (hkx:X.env.kindOf x=some .cell) (hcx:X.env.cells.lookup x=some cc)
  (hb:∀(f c':Addr) (A:Around) (outer:List Env) (s:Shared) (H:Hp),Room k (A.deeper (envX (X.env.qual++Str.ofString "<lambda>") scope s.heap.objs.size f (.ref c') [(x,cc)]))->PE (Zz112 X.prog X.w X.K X.mg X.base [v,x] (X.env.qual++Str.ofString "<lambda>") scope f (.ref c') [(x,cc)] A outer s H) body tb) (hs:starEach [e] X.env=[(false,eval e X.env)]:=by rfl) :
  PE X (.Call (.Name (Str.ofString "sorted") p) [e] [⟨some (Str.ofString "key"),.Lambda params body scope lpos,kp⟩] pos) (Zs12 X.K Pt lpos (X.env.qual++Str.ofString "<lambda>") i te tb):=by
 intro pins s σ H Q I h;refine Y0U (ZR2 I hg hm Boot.«sorted» ?_ (by decide) (by decide));have ha:PA X [e] (Zr10 te tNil):=Zz0 he Zz3 hs
 refine callWith_kw (thn (ha pos pins s σ H (fun vs H1=>match vs with
  | [y]=>∃(p:Addr) (ns:List Int) (vx:V) (key:Int->Int),y=.ref p/\SqT X.K H1 p (ns.map V.int)/\ns.length<64/\TabH H1 Pt lpos (X.env.qual++Str.ofString "<lambda>")/\σ[i]?=some (some vx) /\
   (∀ H2,SameX Pt H1 H2->∀ z∈ns,tb [some (.int z),some vx] H2 fun r H3=>r=.int (key z)/\H3=H2) /\
   ∀(ms:List Int) (l:Addr) (H2:Hp),Zp10 key ns ms->SameX Pt H1 H2->TabH H2 Pt lpos (X.env.qual++Str.ofString "<lambda>")->H2 l=none->Q (.ref l) (upd H2 l (.lst (ms.map V.int)))
  | _=>False) I h) fun us s1 hh=>?_) (by rw[hs];rfl) (by rw[hs];rfl) rfl rfl
 obtain⟨vs,H1,I1,r,q⟩:=hh
 match vs,r,q with
 | [],_,q=>exact False.elim q
 | _ :: _ :: _,_,q=>exact False.elim q
 | [y],r,q =>
  obtain⟨p2,ns,vx,key,rfl,hq,h64,hT,hσ,hk,q⟩:=q;obtain⟨u,rfl,ru⟩:=Zz75 r;obtain rfl:u=Value.ref p2:=ru;refine kws_cons (ZI9 I1 hcode hC hB hT hcl hdef hPg fun f c' pm ctv s2 H2 sx tab F I2 hf hc'=>kws_nil ?_);have I3:=I2.pin1 F hf fun v z=>by cases z
  have hq2:=SqT.samex hq hT sx;obtain⟨its,rv,⟨ot,g1,g2,m,g3⟩,hz⟩:=I2.tuple hq2;have hv:=ZI rv
  refine ZG5 I3 g1 g2 g3 hv h64 (key:=key) (fun pl z t s3 hmem J=>?_) fun s3 a m out ms Fa J hg2 hout hst=>?_
  ·-- the lambda called
   have hob:s3.heap.get? f=some (kla_obj (Str.ofString "<lambda>") (X.env.qual++Str.ofString "<lambda>") params body scope [(x,cc)] pm c' ctv):=(J.pin (f,_) (Yd _ (Yk _ (Yd _ Ye)))).1;obtain⟨mm,_,hloc⟩:=J.loc;obtain⟨ux,rx,hlook⟩:=hloc i x vx hi hσ (.inr (.inl hkx));have hcell:s3.heap.IsCell cc (some ux):=by
    rcases hlook with ⟨kz,_⟩ | ⟨_,c2,e2,hc2⟩
    ·rw[hkx]at kz;cases kz
    ·rw[hcx]at e2;cases e2;exact hc2
   have hrec:s3.heap.CodeRec (.ref c') (X.env.qual++Str.ofString "<lambda>"):=(J.hok c' _ hc').1;have hr2:Room (k+1) X.A.in1.in1:=(hr.in1).in1
   refine wpAny_call (Y1x (Zy11 (u:=.int z t) (vv:=.int z) S hr2 J.env0.in1.in1 hob hrec (hbind c' pm ctv _) hcell rx (J.freeC x cc hcx) ⟨t,rfl⟩ (hb f c' _ _ s3 H2 (hr2.deeper _)) (hk H2 sx z hmem)) fun rr s4 hh=>?_);obtain⟨u',rfl,ce⟩:=hh;obtain⟨v',H',J',rv',e1,e2⟩:=J.after ce;subst e1 e2;obtain⟨t',rfl⟩:=rv';exact⟨t',rfl,J'⟩
  ·have J0:Inv X pins σ H2 s3:=J.unpinned;have Fa0:FpOk X pins H2 a:=⟨Fa.1,Fa.2.1,Fa.2.2.1,Fa.2.2.2.1,Fa.2.2.2.2.1,fun p hp=>Fa.2.2.2.2.2 p (by
    rcases Yy9.mp hp with hp | hp
    ·exact Yk _ hp
    ·exact Yd _ (Yk _ hp))⟩
   have hml:ms.length=ns.length:=by obtain⟨pp,h1,_,rfl⟩:=hst;rw[Yb,h1.length_eq,YX]
   refine⟨.ref a,_,J0.adopt hex Fa0 (u:=.lst (ms.map V.int)) ⟨?_,out.toList,m,Zc1 hout,by simpa using hg2⟩,rfl,q ms a H2 hst sx tab Fa.1⟩;rw[Yb,hml]
   have:sizeLine=16777216:=Y0M
   omega
end
def Zk13(Pt:Addr)(H:Hp):Prop:=H Pt=some (.tbl #[])/\∀ b,b=Pt\/H b=none\/∃ o xs,H b=some (.frz o (.lst xs))
theorem ZA7{P:Program}{w:World}{K:PySem.W.Frag}{mg mb:Str->Option Value}{CX:CXT}{k:Nat}{fa a Pt c:Addr}{fd:FuncData}{x:Str}{sp:Sp}{s₁:Shared}{vs:List Value}{ns:List Int}
  (KX:K.In s₁.heap) (hns:s₁.heap.Ns mainGlobals mg) (hb:s₁.heap.Ns builtinsNs mb) (hbb:∀ x:Str,x≠"__name__"->mb x=bootBuiltins x) (hlim:s₁.heap.NoLimit) (hg:s₁.gens=#[])
  (hT:s₁.heap.get? Pt=some (tabObj #[])) (hC:codeHdIn K c Pt=true) (hKP:K.lookup Pt=none) (hbm:∃ bm ob,mg (Str.ofString "__builtins__")=some (.ref bm)/\bm≠builtinsNs/\s₁.heap.get? bm=some ob/\ob.cls=.type "module"/\ob.dict=some builtinsNs/\ob.data=.plain)
  (ha:s₁.heap.get? a=some { cls:=.type "list",data:=.seq vs.toArray }) (hi:IntsAre vs ns) (hl:ns.length<=sizeLine) (hr:Room k callerA)
  (F:∀ base:Heap,K.In base->base.Ns mainGlobals mg->base.BuiltinsAt mg Pt->FnOk P w K mg base CX k fa fd [x] sp) (hbind:∀(s:Shared) (u:Value),BindsTo s fd ⟨[u],[]⟩ [(x,u)])
  (hsp:∀ H:Hp,Zk13 Pt H->SqL K H a (ns.map V.int)->sp [.ref a] H (fun v _=>v=.bl true) fun _ _ _=>False)
  (hCX:∀ H e s',CX [] H s₁ (fun _ _ _=>False) e s'->False) :
  codeAny (model P w) callerA (.call (.ref fa) ⟨[.ref a],[]⟩) (fun r s'=>r=.ok (.ret (.bool true))/\OldK s₁.heap s'.heap/\s'.os=s₁.os/\AllBare s'.gens) s₁:=by
 have rv:=Zb4 hi;have lenV:=hi.length
 have haP:a≠Pt:=fun z=>by rw[z,hT]at ha;cases ha
 have core:∀ H:Hp,Zk13 Pt H->SqL K H a (ns.map V.int)->HOk P w H s₁.heap->(∀ b,H b≠none->b=a\/b=Pt)->(H a≠none->K.lookup a=none) ->
   codeAny (model P w) callerA (.call (.ref fa) ⟨[.ref a],[]⟩) (fun r s'=>r=.ok (.ret (.bool true))/\OldK s₁.heap s'.heap/\s'.os=s₁.os/\AllBare s'.gens) s₁:=by
  intro H hO hS hok hA hK;have base_of:∀ {b:Addr} {o:Obj},s₁.heap.get? b=some o->H b=none->(hidT s₁.heap H).get? b=some o:=fun e n=>ZP9 e n
  have free:∀ {b:Addr} {o:Obj},s₁.heap.get? b=some o->(∀ its n,o.data≠.seq its n)->(∀ vs,o.data≠.fields vs)->H b=none:=fun {b o} e d1 d2=>by
   cases q:H b with
   | none=>rfl
   | some u =>
    rcases hA b (by rw[q];simp) with e' | e'
    ·subst e';rw[ha]at e;cases e;exact absurd rfl (d1 _ _)
    ·subst e';rw[hT]at e;cases e;exact absurd rfl (d2 _)
  have nsK:∀ {b:Addr} {m:Str->Option Value},s₁.heap.Ns b m->(hidT s₁.heap H).Ns b m:=fun {b m} ⟨o,es,ep,e,d,r⟩=>⟨o,es,ep,base_of e (free e (fun _ _ z=>by rw[d]at z;cases z) fun _ z=>by rw[d]at z;cases z),d,r⟩;have hKb:K.In (hidT s₁.heap H):=fun b o e=>base_of (KX b o e) (by
   cases q:H b with
   | none=>rfl
   | some u =>
    rcases hA b (by rw[q];simp) with e' | e'
    ·subst e';rw[hK (by rw[q];simp)]at e;cases e
    ·subst e';rw[hKP]at e;cases e)
  have hM:Mod K mg (hidT s₁.heap H):=⟨hKb,nsK hns,⟨mb,nsK hb,hbb⟩,let ⟨mc,h1,h2⟩:=hlim;⟨mc,nsK h1,h2⟩⟩;have hB:(hidT s₁.heap H).BuiltinsAt mg Pt:=by
   obtain⟨bm,ob,b1,b2,b3,b4,b5,b6⟩:=hbm;refine⟨bm,ob,b1,b2,fun z=>?_,fun z=>?_,base_of b3 (free b3 (fun _ _ z=>by rw[b6]at z;cases z) fun _ z=>by rw[b6]at z;cases z),b4,b5,b6⟩
   ·obtain⟨o,es,ep,e,d,_⟩:=hns;rw[z,e]at b3;cases b3;rw[d]at b6;cases b6
   ·rw[z,hT]at b3;cases b3;cases b4
  have e0:Env0 P w K mg (hidT s₁.heap H) callerA [] s₁ H:=⟨rfl,hM,fun b o e=>Zh11 e,Nat.le_of_eq (ZH7 _ _),trivial,fun b hb=>absurd (show b∈([]:List Addr) from hb) (by simp),hok,.of_eq hg⟩;refine Y1x ((F _ hKb (nsK hns) hB).run callerA [] s₁ H ⟨[.ref a],[]⟩ [.ref a] [.ref a] _ _ hr e0 (hbind s₁ (.ref a)) (.cons rfl .nil) (hsp H hO hS)) fun r s' h=>?_;cases r with
  | error e=>exact(hCX H e s' h).elim
  | ok fl =>
   cases fl with
   | next=>exact False.elim h
   | brk=>exact False.elim h
   | cont=>exact False.elim h
   | ret u =>
    obtain⟨v,H',os,bare,un,hok',r',q⟩:=h;have q':v=.bl true:=q
    subst q';obtain rfl:u=Value.bool true:=r';obtain⟨more,eP⟩:=un.tbls Pt #[] hO.1;have hP':s'.heap.get? Pt=some { cls:=.none,data:=.fields (#[]++more) }:=hok' Pt _ eP
    have kept:∀ b o,b≠Pt->s₁.heap.get? b=some o->s'.heap.get? b=some o:=fun b o hbP e=>by
     cases q:H b with
     | none=>exact un.keep b o e q (by intro z;exact absurd (show b∈([]:List Addr) from z) (by simp)) (by simp)
     | some u =>
      rcases hO.2 b with z | z | ⟨ob,xs,z⟩
      ·exact absurd z hbP
      ·rw[q]at z;cases z
      ·have z2:=un.frzs b ob _ z;obtain⟨e1,_⟩:=hok b _ z;obtain⟨e2,_⟩:=hok' b _ z2;rw[e]at e1;cases e1;exact e2
    refine⟨rfl,⟨fun b o e=>?_,fun b o e=>?_⟩,os,bare⟩
    ·by_cases hbP:b=Pt
     ·subst hbP;rw[hT]at e;obtain rfl:=Yc e;obtain⟨oc,vsc,_,_,_,_,_,_,_,c1,c2,c3,c4,_⟩:=codeHd_of_K KX hC;exact .inr (.inl ⟨⟨c,oc,vsc,c1,c2,c3,c4⟩,rfl,#[],more,rfl,hP'⟩)
     ·exact .inl (kept b o hbP e)
    ·by_cases hbP:b=Pt
     ·rw[hbP];exact⟨_,hP'⟩
     ·exact⟨o,kept b o hbP e⟩
 cases hk:K.lookup a with
 | some o =>
  have e:=KX a o hk;rw[ha]at e;cases e;refine core (fun b=>if b=Pt then some (.tbl #[]) else none) ⟨if_pos rfl,fun b=>?_⟩ (.inr ⟨_,vs.toArray,_,hk,rfl,rfl,rfl,by rw[Ya,lenV];exact hl,by simpa using rv⟩) (fun b u z=>?_) (fun b z=>?_) fun z=>absurd (if_neg haP) z
  ·by_cases hbP:b=Pt
   ·exact .inl hbP
   ·exact .inr (.inl (if_neg hbP))
  ·by_cases hbP:b=Pt
   ·have z':=(if_pos hbP).symm.trans z;cases z';subst hbP;exact hT
   ·have z':=(if_neg hbP).symm.trans z;cases z'
  ·by_cases hbP:b=Pt
   ·exact .inr hbP
   ·exact absurd (if_neg hbP) z
 | none =>
  refine core (fun b=>if b=Pt then some (.tbl #[]) else if b=a then some (.frz { cls:=.type "list",data:=.seq vs.toArray } (.lst (ns.map V.int))) else none) ⟨if_pos rfl,fun b=>?_⟩ (.inl (.inr ⟨{ cls:=.type "list",data:=.seq vs.toArray },(if_neg haP).trans (if_pos rfl)⟩)) (fun b u z=>?_) (fun b z=>?_) fun _=>hk
  ·by_cases hbP:b=Pt
   ·exact .inl hbP
   ·by_cases hb:b=a
    ·exact .inr (.inr ⟨_,_,(if_neg hbP).trans (if_pos hb)⟩)
    ·exact .inr (.inl ((if_neg hbP).trans (if_neg hb)))
  ·by_cases hbP:b=Pt
   ·have z':=(if_pos hbP).symm.trans z;cases z';subst hbP;exact hT
   ·by_cases hb:b=a
    ·have z':=((if_neg hbP).trans (if_pos hb)).symm.trans z;cases z';subst hb;exact⟨ha,by rw[Yb];exact hl,vs,_,rv,ha⟩
    ·have z':=((if_neg hbP).trans (if_neg hb)).symm.trans z;cases z'
  ·by_cases hbP:b=Pt
   ·exact .inr hbP
   ·by_cases hb:b=a
    ·exact .inl hb
    ·exact absurd ((if_neg hbP).trans (if_neg hb)) z
theorem walk_ofT{l:PySem.W.OpenLaw}{n k:Nat}{q:Program}{loose:List Str}{XP:(Str->Option Value)->Heap->Prop}{YP:World->Heap->Prop}{d:DefRec}{K:Params->PySem.W.Frag}{CX:CXT}{sp:PySem.W.Frag->Sp}{x:Str}{c Pt:Addr}
  (hn:l.most=some n) (hn2:n<=sizeLine) (hdf:d.params.defaults=[]) (hr:Room k callerA)
  (hY:∀(w:World) (h:Heap),YP w h->(K w.params).In h/\h.get? Pt=some (tabObj #[])) (hC:∀ w:World,codeHdIn (K w.params) c Pt=true) (hKP:∀ w:World,(K w.params).lookup Pt=none)
  (F:∀(w:World) (mg:Str->Option Value) (fa:Addr) (h:Heap),(K w.params).In h->h.Ns mainGlobals mg->mg d.name=some (.ref fa) ->
   ∃ fd:FuncData,(∀(s:Shared) (u:Value),BindsTo s fd ⟨[u],[]⟩ [(x,u)]) /\
    ∀ base:Heap,(K w.params).In base->base.Ns mainGlobals mg->base.BuiltinsAt mg Pt->FnOk l.prog w (K w.params) mg base CX k fa fd [x] (sp (K w.params)))
  (hsp:∀(w:World) (H:Hp) (a:Addr) (ns:List Int),ns.length<=n->Zk13 Pt H->SqL (K w.params) H a (ns.map V.int)->sp (K w.params) [.ref a] H (fun v _=>v=.bl true) fun _ _ _=>False)
  (hCX:∀(H:Hp) (s:Shared) (e:Value) (s':Shared),CX [] H s (fun _ _ _=>False) e s'->False) :
  PySem.W.WalkO q loose XP YP l.row.toRowW d [] (fun f vs=>PySem.call f vs):=by refine Att.attach_call hn hdf fun w s₀ s₁ mg mb fa o pm cd doc a vs ns G Y ho hd hcd hmg hobj hints hlen hg=>?_;obtain⟨KX,hT⟩:=hY w _ Y;obtain⟨fd,hb,hF⟩:=F w mg fa _ KX G.T.g hmg;exact ZA7 KX G.T.g G.T.b G.T.builtins G.T.nolimit hg hT (hC w) (hKP w) G.T.bmain hobj hints (YF hlen hn2) hr hF hb (fun H hO hS=>hsp w H a ns hlen hO hS) fun H e s'=>hCX H s₁ e s'
def Zl13(K:PySem.W.Frag)(mg:Str->Option Value)(base:Heap)(fd:FuncData)(Pt:Addr):Prop:=∃ c,fd.code=.ref c/\codeHdIn K c Pt=true/\base.BuiltinsAt mg Pt/\mainGlobals≠Pt
theorem LamScope.of{v x:Str}{sc:Scope}(h1:sc.kind=.function)(h2:sc.isCoroutine=false)(h3:sc.isGenerator=false)(h4:sc.names=[(v,.local),(x,.free)]\/sc.names=[(x,.free),(v,.local)])(hn:v≠x):LamScope v x sc:=by
 have b1:(v == x)=false:=Y2N hn;have b2:(x == v)=false:=Y2N (Yy03 hn)
 refine⟨h1,h2,h3,fun y hy=>?_,?_,?_,fun y hy=>?_,hn⟩
 ·have l1:NameKind.local≠NameKind.cell:=by decide
  have l2:NameKind.free≠NameKind.cell:=by decide
  rcases h4 with e | e <;> rw[e]at hy <;> rcases Yh.mp hy with rfl | hy
  ·exact l1
  ·rw[Yy1.mp hy];exact l2
  ·exact l2
  ·rw[Yy1.mp hy];exact l1
 ·rcases h4 with e | e <;> rw[e] <;> simp[List.lookup,b1,b2]
 ·rcases h4 with e | e <;> rw[e] <;> simp[List.lookup,b1,b2]
 ·rcases h4 with e | e <;> rw[e]at hy <;> simp only [List.lookup]at hy
  ·split at hy
   ·cases hy
   ·split at hy
    ·rename_i q;exact Yy16.mp q
    ·cases hy
  ·split at hy
   ·rename_i q;exact Yy16.mp q
   ·split at hy
    ·cases hy
    ·cases hy
section
variable{P:Program}{w:World}{K:PySem.W.Frag}{mg:Str->Option Value}{base:Heap}
theorem Fun.okL{x qual:Str}{st:Stmt}{f c:Addr}{fd:FuncData}{N ps:List Str}{k:Nat}{sp:Sp}(F:Fun K x qual st f fd)(hc:fd.code=.ref c)(S:FnScope N ps (Zz7 st))(len:∀ vs H Q E,sp vs H Q E->vs.length=ps.length)
  (hbody:∀(A:Around) (outer:List Env) (s:Shared) (H:Hp) (vs:List V) (Q:VK) (E:XK),Room k (A.deeper (envOfC qual (Zz7 st) s.heap.objs.size f (.ref c)))->sp vs H Q E ->
   ∃ t,PSs (cxOf CX0 P w K mg base N qual (Zz7 st) f (.ref c) A outer s H E).nox (Zu1 st) t/\t { nx:=fun _ H'=>Q .non H',rt:=Q } (start N vs) H):FnOk P w K mg base CX0 (k+1) f fd ps sp:=by obtain⟨oc,od,kV,doc,pm,an,cdv,ct,osl,rfl,lk,hcd⟩:=F.ex;obtain rfl:cdv=.ref c:=hc;refine Zu13 lk hcd S len fun A outer s H vs Q E hr hsp=>?_;obtain⟨t,h,q⟩:=hbody A outer s H vs Q E hr hsp;exact⟨t,h.nox,q⟩
end
end L2
namespace My
open PySem L2
def FXL(K:PySem.W.Frag)(mg:Str->Option Value)(x qual:Str)(st:Stmt)(Pt:Addr):Prop:=∃(f:Addr) (fd:FuncData) (c:Addr),mg x=some (.ref f)/\Fun K x qual st f fd/\fd.code=.ref c/\PySem.W.codeHdIn K c Pt=true
theorem fxl_mk{K:PySem.W.Frag}{h:Heap}{mg:Str->Option Value}{x:Str}{st:Stmt}{f cA Pt:Addr}{oc:Value}{od an:Option Addr}{osl:Array (Option Value)}{kV doc pm ct:Value}(X:K.In h)(G:h.Ns mainGlobals mg)
  (a:PySem.W.nsIn K mainGlobals x=some (some (.ref f))) (l:K.lookup f=some ⟨oc,od,.func (PySem.W.fnOf x x (Zm2 st) (Zu1 st) (Zz7 st) .none kV doc pm an (.ref cA) ct),osl⟩) (c:PySem.W.codeIn K (.ref cA) x=true) (k:PySem.W.keepIn K (.ref f)=true) (z:PySem.W.codeHdIn K cA Pt=true):FXL K mg x x st Pt :=
 ⟨f,_,cA,Y2s X G a,ZU9 l c k,rfl,z⟩
end My
namespace L2
open PySem PySem.Spec PyProof.Rows PySem.MeetsSeq
theorem Zd9(l:Addr)(xs:Array Value)(n:Nat)(v:Value)(g:Value->Bool)(j:Nat)(hj:j<xs.size)(yes:g xs[j]=true)(hz:xs.size<=sizeLine):∀(k i:Nat),j - i=k->i<=j->(∀ m (hm:m<xs.size),i<=m->m<j->g xs[m]=false) ->
  Meets (Builtin.«list.remove.loop» ⟨[.ref l,v,rawInt i],[]⟩) (fun A R s=>s.heap.get? l=some { cls:=.type "list",dict:=none,data:=.seq xs n,slots:=#[] }/\(∀ y,y∈xs->SeqAt.EqAt A.in1 s y v (g y))/\R (.ok (.ret .none)) { s with heap:=s.heap.update l (Obj.mapSeq fun ys=>ys.eraseIdxIfInBounds j) }):=by
 intro k
 induction k with
 | zero =>
  intro i e1 e2 no prog w A R s h;obtain⟨hp,gs,d,tk,os⟩:=s;obtain⟨ho,he,h⟩:=h;obtain rfl:i=j:=by omega
  wp_walk using (Yy13 ho)
  have at_:xs[((i:Nat):Int).toNat]?=some xs[i]:=by simp[hj]
  rw[at_];refine Yy4 (he _ (Array.getElem_mem hj) prog w _ _ ?_);rw[yes];have hz2:(xs.eraseIdxIfInBounds i).size<=sizeLine+1:=YF (size_erased xs _) (Nat.le_succ_of_le hz)
  wp_walk using (Y2o ho rfl (hz:=hz) (_hz':=hz2)),(Yy13 ho)
  simpa using h
 | succ k ih =>
  intro i e1 e2 no prog w A R s h;obtain⟨hp,gs,d,tk,os⟩:=s;obtain⟨ho,he,h⟩:=h;have lt:i<xs.size:=by omega
  wp_walk using (Yy13 ho)
  have at_:xs[((i:Nat):Int).toNat]?=some xs[i]:=by simp[lt]
  have nx:((i:Int)+1)=((i+1:Nat):Int):=by push_cast;rfl
  rw[at_];refine Yy4 (he _ (Array.getElem_mem lt) prog w _ _ ?_);rw[no i lt (Yy7 _) (by omega)]
  wp_walk
  rw[nx];refine⟨Yy15 plain_remove_loop _,Y0c entry_remove_loop ?_⟩;rw[Y0u plain_remove_loop _];exact ih (i+1) (by omega) (by omega) (fun m hm a b=>no m hm (by omega) b) prog w A R _ ⟨ho,he,h⟩
theorem Zm7(l:Addr)(xs:Array Value)(n:Nat)(v:Value)(g:Value->Bool)(j:Nat)(hj:j<xs.size)(yes:g xs[j]=true)(no:∀ m (hm:m<xs.size),m<j->g xs[m]=false)(hz:xs.size<=sizeLine) :
  Meets (Builtin.«list.remove» ⟨[.ref l,v],[]⟩) (fun A R s=>s.heap.get? l=some { cls:=.type "list",dict:=none,data:=.seq xs n,slots:=#[] }/\(∀ y,y∈xs->SeqAt.EqAt A.in1 s y v (g y))/\R (.ok (.ret .none)) { s with heap:=s.heap.update l (Obj.mapSeq fun ys=>ys.eraseIdxIfInBounds j) }):=by
 intro prog w A R s h;obtain⟨hp,gs,d,tk,os⟩:=s;obtain⟨ho,he,h⟩:=h
 wp_walk using (Yy13 ho)
 refine⟨Yy15 plain_remove_loop _,Y0c entry_remove_loop ?_⟩;rw[Y0u plain_remove_loop _];exact Zd9 l xs n v g j hj yes hz _ 0 rfl (Yj _) (fun m hm _ b=>no m hm b) prog w A R _ ⟨ho,he,h⟩
section
variable{X:Cx}
def ZY10(K:PySem.W.Frag):V->List V->Hp->VK->Prop:=fun x vs H Q=>∃(n:Nat) (l:Addr) (xs:List V) (y:V) (e:Addr->Bool) (j:Nat) (a:Addr),x=.ref l/\vs=[y]/\H l=some (.lst xs)/\n<=6/\(∀ v∈xs,∃ a,v=.ref a/\EqD K H n v y (e a))/\xs[j]?=some (.ref a)/\e a=true/\(∀ m b,m<j->xs[m]?=some (.ref b)->e b=false)/\Q .non (upd H l (.lst (xs.eraseIdx j)))
theorem Vals.erase{xs:List V}{us:List Value}(r:Vals xs us)(j:Nat):Vals (xs.eraseIdx j) (us.eraseIdx j):=by rw[Y2t,Y2t];exact(r.take _).append (r.drop _)
theorem Zz66 (K:PySem.W.Frag) (hu:X.A.units+8<cLine) (hk:X.K=K:=by rfl):MtM X "list.remove" (ZY10 K):=by
 subst hk;intro pins s σ H x vs v us Q I rx rv h;obtain⟨n,l,xs,y,e,j,a,rfl,rfl,hH,hn,he,hj,hy,hno,q⟩:=h;cases rx;obtain⟨u,rfl,ru⟩:=rv.one;obtain⟨z,its,m,r,hl,ho⟩:=I.lstM hH;have hjl:j<xs.length:=(Yy2.mp hj).1
 have at_:∀(i:Nat) (hi:i<its.toArray.size),∃ b,xs[i]?=some (.ref b)/\its.toArray[i]=.ref b:=fun i hi=>by
  have hi2:i<its.length:=by simpa using hi
  obtain⟨w,ew,rw'⟩:=r.at hi2;obtain⟨b,rfl,_⟩:=he w (Yy6 ew);have e3:its[i]=Value.ref b:=rw'
  exact⟨b,ew,by simpa using e3⟩
 have hjs:j<its.toArray.size:=by rw[Ya];omega
 refine Y2h F.slot_list_remove ⟨_,ho,rfl⟩ F.entry_list_remove (F.args_list_remove_2 _ _) (Zm7 l its.toArray m u (fun w=>match w with | .ref b=>e b | _=>false) j hjs ?_ ?_ (by rw[Ya];omega)) ⟨ho,fun w hw=>?_,?_⟩
 ·obtain⟨b,e1,e2⟩:=at_ j hjs;rw[hj]at e1;cases e1;rw[e2];exact hy
 ·intro i hi hij;obtain⟨b,e1,e2⟩:=at_ i hi;rw[e2];exact hno i b hij e1
 ·exact Zz96 I (by show X.A.units+1+n<cLine;omega) ru r he w (by simpa using hw)
 ·refine⟨.non,_,I.lset (its':=its.eraseIdx j) hH ho ?_ (r.erase j) ?_,rfl,q⟩
  ·rw[Array.eraseIdxIfInBounds_eq,dif_pos hjs];apply Array.ext';simp
  ·rw[Y0S,if_pos hjl];omega
end
end L2
namespace My
open PySem L2
def ClsT(n:Int)(ps:List (Int × Int))(I O W:List Int):Prop:=Zd n ps W/\(∀ z∈I,z∈W)/\∀ z∈O,z∉W
def pl(ls T U:List Int):Prop:=HT.ltP (sumL ls T,T) (sumL ls U,U)=true
theorem pl_iff{ls T U:List Int}:pl ls T U↔sumL ls T<sumL ls U\/(sumL ls T=sumL ls U/\HT.lexLt T U=true):=HT.ltP_iff
theorem pl.trans{ls T U W:List Int}(h1:pl ls T U)(h2:pl ls U W):pl ls T W:=HT.ltP_trans h1 h2
theorem Zp1{ls T:List Int}:¬ pl ls T T:=fun h=>by
 have:=HT.ltP_irrefl (sumL ls T,T)
 unfold pl at h;rw[this]at h;cases h
def OrdL(ls:List Int)(m:Nat)(os:List Int):Prop:=os.Perm (rgL m)/\os.Pairwise fun x y=>lnz ls x<lnz ls y\/(lnz ls x=lnz ls y/\x<y)
theorem ZK3{n:Int}{ps:List (Int × Int)}{T W:List Int}(g:Zu n ps)(hT:Zd n ps T)(hW:Zd n ps W)(h:∀ z∈T,z∈W):T=W :=
 Zz65 (ZF1 hT) (ZF1 hW) fun z=>(Yz5 g hT hW h).mem_iff
section
variable{n:Int}{ps:List (Int × Int)}{ls os I O ms:List Int}(g:Zu n ps)(ho:OrdL ls ps.length os)
include g ho
theorem Zo3{z:Int}:z∈os↔0<=z/\z<(ps.length:Int):=by rw[ho.1.mem_iff,rgL_mem]
theorem ZK7(hI:∀ z∈I,0<=z/\z<(ps.length:Int)):∀ z∈I++os.filter fun z=>decide (z∉O),0<=z/\z<(ps.length:Int):=fun z hz=>by
 rcases Yy9.mp hz with hz | hz
 ·exact hI z hz
 ·exact(Zo3 g ho).mp (Yi.mp hz).1
theorem Zf13{W:List Int}(hW:ClsT n ps I O W):∀ z∈W,z∈I++os.filter fun z=>decide (z∉O):=fun z hz =>
 Yd _ (Yi.mpr ⟨(Zo3 g ho).mpr (hW.1.1.all z hz),Yl fun h=>hW.2.2 z h hz⟩)
theorem Zx8(hI:∀ z∈I,0<=z/\z<(ps.length:Int))(hn:I.Nodup)(h:¬ ((grw n.toNat ps (I++os.filter fun z=>decide (z∉O))).take I.length=I/\¬ ((grw n.toNat ps (I++os.filter fun z=>decide (z∉O))).length:Int)<n - 1))(W:List Int):¬ ClsT n ps I O W:=fun hW =>
 h (ZI11 g hW.1 hn hW.2.1 (Zf13 g ho hW) (ZK7 g ho hI))
theorem Zv6(hI:∀ z∈I,0<=z/\z<(ps.length:Int))(hIO:∀ z∈I,z∉O)(h1:(grw n.toNat ps (I++os.filter fun z=>decide (z∉O))).take I.length=I)(h2:¬ ((grw n.toNat ps (I++os.filter fun z=>decide (z∉O))).length:Int)<n - 1)
  (hp:ms.Perm (grw n.toNat ps (I++os.filter fun z=>decide (z∉O)))) (hs:ms.Pairwise (·<=·)):ClsT n ps I O ms/\∀ W,ClsT n ps I O W->W=ms\/pl ls ms W:=by
 have hb:=ZK7 (O:=O) g ho hI;have hT:=Zi5 g hb h2 hp hs
 have hin:∀ z∈ms,z∈I++os.filter fun z=>decide (z∉O):=fun z hz=>(Zv4 _ _ _).subset (hp.mem_iff.mp hz);have hIm:∀ z∈I,z∈ms:=fun z hz=>hp.mem_iff.mpr (Y0R (h1.symm ▸ hz))
 have hOm:∀ z∈O,z∉ms:=fun z hz hm=>by
  rcases Yy9.mp (hin z hm) with h | h
  ·exact hIO z h hz
  ·exact Yt (Yi.mp h).2 hz
 have before:∀ z y,z∉I->y∉ms->y∉O->exg n ps ms z y->lnz ls z<lnz ls y\/(lnz ls z=lnz ls y/\z<y):=fun z y hzI hym hyO hx=>by
  obtain⟨hzm,_,y0,y1,_⟩:=(Zy3 g hT).mp hx;have hyd:y∈os.filter fun z=>decide (z∉O):=Yi.mpr ⟨(Zo3 g ho).mpr ⟨y0,y1⟩,Yl hyO⟩
  obtain⟨as,bs,ed⟩:=List.append_of_mem hyd;have hb':∀ z∈I++as,0<=z/\z<(ps.length:Int):=fun z hz=>hb z ((Yy9.mp hz).elim (fun h=>Yk _ h) fun h=>Yd _ (by rw[ed];exact Yk _ h))
  have hyG:y∉grw n.toNat ps ((I++as)++y :: bs):=by rw[Y0f,<- ed];exact fun h=>hym (hp.mem_iff.mpr h)
  have c:=ZR9 g hb' y0 y1 hyG;have hz2:z∈grw n.toNat ps (I++as):=Yf fun hno=>(Zz11 g hT y0 y1).mp hx.2.2 (c.mono (Zx fun x hxx=>wo_mem.mpr ⟨hp.mem_iff.mpr (by
   have:=ZQ9 (bs:=y :: bs) hxx
   rw[Y0f,<- ed]at this;exact this),fun e=>hno (by rw[<- e];exact hxx)⟩))
  have hza:z∈as:=(Yy9.mp ((Zv4 _ _ _).subset hz2)).resolve_left hzI;have pw:=ho.2.sublist (List.filter_sublist (p:=fun z=>decide (z∉O)))
  rw[ed]at pw;exact(YY.mp pw).2.2 z hza y Ye
 refine⟨⟨hT,hIm,hOm⟩,?_⟩;have main:∀(k:Nat) (W:List Int),ClsT n ps I O W->(W.filter fun z=>decide (z∉ms)).length=k->W=ms\/pl ls ms W:=by
  intro k
  induction k with
  | zero =>
   intro W hW hk;have hsub:∀ z∈W,z∈ms:=fun z hz=>Yf fun hn=>by
    have:z∈W.filter fun z=>decide (z∉ms):=Yi.mpr ⟨hz,Yl hn⟩
    rw[YK.mp hk]at this;cases this
   exact .inl (ZK3 g hW.1 hT hsub)
  | succ k ih =>
   intro W hW hk;obtain⟨y,hy⟩:∃ y,y∈W.filter fun z=>decide (z∉ms):=Y2A (by omega);obtain⟨hyW,hym⟩:=Yi.mp hy;have hym:=Yt hym
   obtain⟨z,e1,e2⟩:=ZA1 g hW.1 hT hyW hym;have hzW:z∉W:=((Zy3 g hW.1).mp e1).2.1
   have hzm:z∈ms:=e2.1;have hord:=before z y (fun h=>hzW (hW.2.1 z h)) hym (fun h=>hW.2.2 y h hyW) e2
   obtain⟨M,hM1,hM2⟩:=Zf3 (wo W y++[z]);have tM:=Zj2 g hW.1 e1 hM1 hM2
   have sM:=ZE2 (ls:=ls) hW.1.1.nodup hyW hM1;have mem:∀ x,x∈M↔(x∈W/\x≠y)\/x=z:=fun x=>ZP11 g hW.1 e1 hM1 hM2
   have cM:ClsT n ps I O M:=⟨tM,fun x hx=>(mem x).mpr (.inl ⟨hW.2.1 x hx,fun e=>hym (e ▸ hIm x hx)⟩),fun x hx h=>by
    rcases(mem x).mp h with h | h
    ·exact hW.2.2 x hx h.1
    ·exact hOm x hx (h ▸ hzm)⟩
   have lM:pl ls M W:=by
    rw[pl_iff];rcases hord with h | ⟨h,h'⟩
    ·exact .inl (by omega)
    ·refine .inr ⟨by omega,(ZO2 (isSet_iff.mp tM.1).2 (isSet_iff.mp hW.1.1).2 (by have:=tM.2.1;have:=hW.1.2.1;omega)).mpr ⟨z,(mem z).mpr (.inr rfl),hzW,fun s hs=>?_⟩⟩;rw[mem];constructor
     ·rintro(q | q)
      ·exact q.1
      ·omega
     ·exact fun q=>.inl ⟨q,by omega⟩
   have hk2:(M.filter fun z=>decide (z∉ms)).length=k:=by
    have hx:∀ x,x∈y :: (M.filter fun z=>decide (z∉ms))↔x∈W.filter fun z=>decide (z∉ms):=fun x=>by
     rw[Yh,Yi,Yi,mem];constructor
     ·rintro(q | ⟨q | q,q2⟩)
      ·rw[q];exact⟨hyW,Yl hym⟩
      ·exact⟨q.1,q2⟩
      ·exact absurd (q ▸ hzm) (Yt q2)
     ·rintro⟨q1,q2⟩;by_cases c:x=y
      ·exact .inl c
      ·exact .inr ⟨.inl ⟨q1,c⟩,q2⟩
    have nd:(y :: (M.filter fun z=>decide (z∉ms))).Nodup:=Yy09.mpr ⟨fun h=>by
     rcases(mem y).mp (Yi.mp h).1 with q | q
     ·exact q.2 rfl
     ·exact hym (q ▸ hzm),tM.1.nodup.filter _⟩
    have l1:=ZM1 nd fun x h=>(hx x).mp h;have l2:=ZM1 (hW.1.1.nodup.filter fun z=>decide (z∉ms)) fun x h=>(hx x).mpr h
    rw[YA]at l1 l2;omega
   rcases ih M cM hk2 with q | q
   ·exact .inr (q ▸ lM)
   ·exact .inr (q.trans lM)
 exact fun W hW=>main _ W hW rfl
end
structure Ent where
 T:List Int
 I:List Int
 O:List Int
deriving DecidableEq
def ECl(n:Int)(ps:List (Int × Int))(E:Ent)(W:List Int):Prop:=ClsT n ps E.I E.O W
structure EOk (n:Int) (ps:List (Int × Int)) (ls:List Int) (E:Ent):Prop where
 own:ECl n ps E E.T
 min:∀ W,ECl n ps E W->W=E.T\/pl ls E.T W
 iN:E.I.Nodup
 oN:E.O.Nodup
 oR:∀ z∈E.O,0<=z/\z<(ps.length:Int)
def Dsj(n:Int)(ps:List (Int × Int))(E F:Ent):Prop:=∀ W,ECl n ps E W->¬ ECl n ps F W
theorem Dsj.symm{n:Int}{ps:List (Int × Int)}{E F:Ent}(h:Dsj n ps E F):Dsj n ps F E:=fun W a b=>h W b a
theorem EOk.iL{n:Int}{ps:List (Int × Int)}{ls:List Int}{E:Ent}(h:EOk n ps ls E):E.I.length<=E.T.length:=ZM1 h.iN h.own.2.1
theorem EOk.oL{n:Int}{ps:List (Int × Int)}{ls:List Int}{E:Ent}(h:EOk n ps ls E):E.O.length<=ps.length:=by
 have:=ZM1 (m:=rgL ps.length) h.oN fun z hz=>rgL_mem.mpr (h.oR z hz)
 rw[Zy]at this;exact this
structure FB (n:Int) (ps:List (Int × Int)) (ls:List Int) (E:Ent) (l:List Int) (Es:List Ent):Prop where
 ok:∀ F∈Es,EOk n ps ls F
 sub:∀ F∈Es,∀ W,ECl n ps F W->ECl n ps E W
 cov:∀ W,ECl n ps E W->((∃ t∈l,t∉W)↔∃ F∈Es,ECl n ps F W)
 dsj:Es.Pairwise (Dsj n ps)
section
variable{n:Int}{ps:List (Int × Int)}{ls os:List Int}{E:Ent}{l:List Int}{Es:List Ent}{t:Int}
theorem FB.nil:FB n ps ls E [] []:=⟨fun _ h=>(by cases h),fun _ h=>(by cases h),fun _ _=>⟨fun⟨_,h,_⟩=>(by cases h),fun⟨_,h,_⟩=>(by cases h)⟩,.nil⟩
theorem FB.skip(h:FB n ps ls E l Es)(ht:t∈E.I):FB n ps ls E (l++[t]) Es:=⟨h.ok,h.sub,fun W hW=>(by
 rw[<- h.cov W hW];constructor
 ·rintro⟨z,hz,hn⟩;rcases Yy9.mp hz with hz | hz
  ·exact⟨z,hz,hn⟩
  ·rw[Yy1.mp hz]at hn;exact absurd (hW.2.1 t ht) hn
 ·rintro⟨z,hz,hn⟩;exact⟨z,Yk _ hz,hn⟩),h.dsj⟩
def insd(E:Ent)(l:List Int):List Int:=E.I++l.filter fun z=>decide (z∉E.I)
theorem insd_mem{z:Int}:z∈insd E l↔z∈E.I\/z∈l:=by
 unfold insd;rw[Yy9,Yi];constructor
 ·rintro(h | h)
  ·exact .inl h
  ·exact .inr h.1
 ·rintro(h | h)
  ·exact .inl h
  ·by_cases c:z∈E.I
   ·exact .inl c
   ·exact .inr ⟨h,Yl c⟩
theorem part_iff{W:List Int}:ClsT n ps (insd E l) (E.O++[t]) W↔ECl n ps E W/\(∀ z∈l,z∈W)/\t∉W:=by
 constructor
 ·rintro⟨h1,h2,h3⟩;exact⟨⟨h1,fun z hz=>h2 z (insd_mem.mpr (.inl hz)),fun z hz=>h3 z (Yk _ hz)⟩,fun z hz=>h2 z (insd_mem.mpr (.inr hz)),h3 t (Yd _ (Yy1.mpr rfl))⟩
 ·rintro⟨⟨h1,h2,h3⟩,h4,h5⟩;refine⟨h1,fun z hz=>(insd_mem.mp hz).elim (h2 z) (h4 z),fun z hz=>?_⟩;rcases Yy9.mp hz with hz | hz
  ·exact h3 z hz
  ·rw[Yy1.mp hz];exact h5
theorem FB.none(h:FB n ps ls E l Es)(hno:∀ W,¬ ClsT n ps (insd E l) (E.O++[t]) W):FB n ps ls E (l++[t]) Es:=⟨h.ok,h.sub,fun W hW=>(by
 rw[<- h.cov W hW];constructor
 ·rintro⟨z,hz,hn⟩;refine Yf fun no=>hno W (part_iff.mpr ⟨hW,fun y hy=>Yf fun q=>no ⟨y,hy,q⟩,?_⟩);rcases Yy9.mp hz with hz | hz
  ·exact absurd ⟨z,hz,hn⟩ no
  ·rw[<- Yy1.mp hz];exact hn
 ·rintro⟨z,hz,hn⟩;exact⟨z,Yk _ hz,hn⟩),h.dsj⟩
theorem FB.more{ms:List Int}(h:FB n ps ls E l Es)(hF:EOk n ps ls ⟨ms,insd E l,E.O++[t]⟩):FB n ps ls E (l++[t]) (Es++[⟨ms,insd E l,E.O++[t]⟩]) where
 ok:=fun F hF'=>by
  rcases Yy9.mp hF' with q | q
  ·exact h.ok F q
  ·rw[Yy1.mp q];exact hF
 sub:=fun F hF' W hW=>by
  rcases Yy9.mp hF' with q | q
  ·exact h.sub F q W hW
  ·rw[Yy1.mp q]at hW;exact(part_iff.mp hW).1
 cov:=fun W hW=>by
  constructor
  ·rintro⟨z,hz,hn⟩;by_cases c:∃ y∈l,y∉W
   ·obtain⟨F,hF1,hF2⟩:=(h.cov W hW).mp c;exact⟨F,Yk _ hF1,hF2⟩
   ·refine⟨_,Yd _ (Yy1.mpr rfl),part_iff.mpr ⟨hW,fun y hy=>Yf fun q=>c ⟨y,hy,q⟩,?_⟩⟩;rcases Yy9.mp hz with hz | hz
    ·exact absurd ⟨z,hz,hn⟩ c
    ·rw[<- Yy1.mp hz];exact hn
  ·rintro⟨F,hF',hW'⟩;rcases Yy9.mp hF' with q | q
   ·obtain⟨z,hz,hn⟩:=(h.cov W hW).mpr ⟨F,q,hW'⟩;exact⟨z,Yk _ hz,hn⟩
   ·rw[Yy1.mp q]at hW';exact⟨t,Yd _ (Yy1.mpr rfl),(part_iff.mp hW').2.2⟩
 dsj:=YY.mpr ⟨h.dsj,Y0b _ _,fun G hG F hF' W a b=>by rw[Yy1.mp hF']at b;obtain⟨b1,b2,_⟩:=part_iff.mp b;obtain⟨z,hz,hn⟩:=(h.cov W b1).mpr ⟨G,hG,a⟩;exact hn (b2 z hz)⟩
theorem FB.all(g:Zu n ps)(hE:EOk n ps ls E)(h:FB n ps ls E E.T Es)(W:List Int)(hW:ECl n ps E W):W≠E.T↔∃ F∈Es,ECl n ps F W:=by
 rw[<- h.cov W hW];constructor
 ·intro hn;refine Yf fun no=>hn (ZK3 g hE.own.1 hW.1 fun z hz=>Yf fun q=>no ⟨z,hz,q⟩).symm
 ·rintro⟨z,hz,hn⟩ rfl;exact hn hz
theorem Za11{ms:List Int}(g:Zu n ps)(ho:OrdL ls ps.length os)(hE:EOk n ps ls E)(hl:l.Nodup)(hlT:∀ z∈l,z∈E.T)(ht:t∈E.T)(hti:t∉insd E l)
  (h1:(grw n.toNat ps (insd E l++os.filter fun z=>decide (z∉E.O++[t]))).take (insd E l).length=insd E l) (h2:¬ ((grw n.toNat ps (insd E l++os.filter fun z=>decide (z∉E.O++[t]))).length:Int)<n - 1)
  (hp:ms.Perm (grw n.toNat ps (insd E l++os.filter fun z=>decide (z∉E.O++[t])))) (hs:ms.Pairwise (·<=·)):EOk n ps ls ⟨ms,insd E l,E.O++[t]⟩:=by
 have hin:∀ z∈insd E l,z∈E.T:=fun z hz=>(insd_mem.mp hz).elim (hE.own.2.1 z) (hlT z);obtain⟨c1,c2⟩:=Zv6 g ho (fun z hz=>hE.own.1.1.all z (hin z hz)) (fun z hz hO=>by
  rcases Yy9.mp hO with q | q
  ·exact hE.own.2.2 z q (hin z hz)
  ·exact hti ((Yy1.mp q) ▸ hz)) h1 h2 hp hs
 refine⟨c1,c2,?_,?_,fun z hz=>?_⟩
 ·exact Yy06.mpr ⟨hE.iN,hl.filter _,fun a ha b hb e=>Yt (Yi.mp hb).2 (e ▸ ha)⟩
 ·exact Yy06.mpr ⟨hE.oN,Y0b _ _,fun a ha b hb e=>hE.own.2.2 a ha (by rw[e,Yy1.mp hb];exact ht)⟩
 ·rcases Yy9.mp hz with q | q
  ·exact hE.oR z q
  ·rw[Yy1.mp q];exact hE.own.1.1.all t ht
end
structure RI (n:Int) (ps:List (Int × Int)) (ls:List Int) (L:List (List Int)) (Es:List Ent):Prop where
 tr:∀ T∈L,Zd n ps T
 asc:L.Pairwise (pl ls)
 ok:∀ E∈Es,EOk n ps ls E
 cov:∀ W,Zd n ps W->W∈L\/∃ E∈Es,ECl n ps E W
 beh:∀ E∈Es,∀ W,ECl n ps E W->∀ T∈L,pl ls T W
 dsj:Es.Pairwise (Dsj n ps)
theorem Zo4:∀ a b:List Int,a.length=b.length->a≠b->HT.lexLt a b=true\/HT.lexLt b a=true
 | [],[],_,h=>absurd rfl h
 | [],_ :: _,h,_=>by cases h
 | _ :: _,[],h,_=>by cases h
 | x :: a,y :: b,hl,h=>by
  rw[HT.lexLt_cons,HT.lexLt_cons];by_cases c:x=y
  ·rw[if_pos c,if_pos c.symm];exact Zo4 a b (by simpa using hl) fun e=>h (by rw[c,e])
  ·rw[if_neg c,if_neg (fun q=>c q.symm),YJ,YJ];omega
theorem ZM12{n:Int}{ps:List (Int × Int)}{ls T U:List Int}(hT:Zd n ps T)(hU:Zd n ps U)(h:T≠U):pl ls T U\/pl ls U T:=by
 rw[pl_iff,pl_iff];rcases Y2w (sumL ls T) (sumL ls U) with c | c | c
 ·exact .inl (.inl c)
 ·rcases Zo4 T U (by have:=hT.2.1;have:=hU.2.1;omega) h with q | q
  ·exact .inl (.inr ⟨c,q⟩)
  ·exact .inr (.inr ⟨c.symm,q⟩)
 ·exact .inr (.inl c)
section
variable{n:Int}{ps:List (Int × Int)}{ls:List Int}{L:List (List Int)}{Es Fs:List Ent}
theorem RI.apart(h:RI n ps ls L Es){i j:Nat}{E F:Ent}(hE:Es[i]?=some E)(hF:Es[j]?=some F)(hne:i≠j):Dsj n ps E F:=by
 obtain⟨hi,ei⟩:=Yy2.mp hE;obtain⟨hj,ej⟩:=Yy2.mp hF;have pw:=Yy00.mp h.dsj
 by_cases c:i<j
 ·have:=pw i j hi hj c
  rw[ei,ej]at this;exact this
 ·have:=pw j i hj hi (by omega)
  rw[ei,ej]at this;exact this.symm
theorem RI.unlike(h:RI n ps ls L Es){i j:Nat}{E F:Ent}(hE:Es[i]?=some E)(hF:Es[j]?=some F)(hne:i≠j):E.T≠F.T:=fun e =>
 h.apart hE hF hne E.T (h.ok E (Yy6 hE)).own (e ▸ (h.ok F (Yy6 hF)).own)
theorem RI.step(g:Zu n ps)(h:RI n ps ls L Es){j:Nat}{E:Ent}(hE:Es[j]?=some E)(hm:∀ F∈Es,¬ pl ls F.T E.T)(hF:FB n ps ls E E.T Fs):RI n ps ls (L++[E.T]) (Es.eraseIdx j++Fs):=by
 have okE:=h.ok E (Yy6 hE);have er:∀ F∈Es.eraseIdx j,∃ i,i≠j/\Es[i]?=some F:=fun F hF=>by obtain⟨i,hi,e⟩:=Y2v.mp hF;exact⟨i,hi,e⟩
 have all:=hF.all g okE;refine⟨fun T hT=>?_,?_,fun F hF'=>?_,fun W hW=>?_,fun F hF' W hW T hT=>?_,?_⟩
 ·rcases Yy9.mp hT with q | q
  ·exact h.tr T q
  ·rw[Yy1.mp q];exact okE.own.1
 ·refine YY.mpr ⟨h.asc,Y0b _ _,fun T hT U hU=>?_⟩;rw[Yy1.mp hU];exact h.beh E (Yy6 hE) E.T okE.own T hT
 ·rcases Yy9.mp hF' with q | q
  ·obtain⟨i,_,e⟩:=er F q;exact h.ok F (Yy6 e)
  ·exact hF.ok F q
 ·rcases h.cov W hW with q | ⟨F,q1,q2⟩
  ·exact .inl (Yk _ q)
  ·obtain⟨i,hi⟩:=YZ q1;by_cases c:i=j
   ·subst c;rw[hE]at hi;obtain rfl:=Yc hi;by_cases c2:W=E.T
    ·exact .inl (Yd _ (Yy1.mpr c2))
    ·obtain⟨G,g1,g2⟩:=(all W q2).mp c2;exact .inr ⟨G,Yd _ g1,g2⟩
   ·exact .inr ⟨F,Yk _ (Y2v.mpr ⟨i,c,hi⟩),q2⟩
 ·rcases Yy9.mp hF' with q | q
  ·obtain⟨i,hi,e⟩:=er F q;have okF:=h.ok F (Yy6 e)
   rcases Yy9.mp hT with qT | qT
   ·exact h.beh F (Yy6 e) W hW T qT
   ·rw[Yy1.mp qT];have less:=(ZM12 (ls:=ls) okF.own.1 okE.own.1 (h.unlike e hE hi)).resolve_left (hm F (Yy6 e))
    rcases okF.min W hW with c | c
    ·rw[c];exact less
    ·exact less.trans c
  ·have hWE:=hF.sub F q W hW;rcases Yy9.mp hT with qT | qT
   ·exact h.beh E (Yy6 hE) W hWE T qT
   ·rw[Yy1.mp qT];exact(okE.min W hWE).resolve_left ((all W hWE).mpr ⟨F,q,hW⟩)
 ·refine YY.mpr ⟨h.dsj.sublist (List.eraseIdx_sublist _ _),hF.dsj,fun F q G q2 W a b=>?_⟩;obtain⟨i,hi,e⟩:=er F q;exact h.apart e hE hi W a (hF.sub G q2 W b)
end
structure Rkd (n:Int) (ps:List (Int × Int)) (ls:List Int) (most:Nat) (L:List (List Int)):Prop where
 tr:∀ T∈L,Zd n ps T
 asc:L.Pairwise (pl ls)
 few:L.length<=most
 all:∀ W,Zd n ps W->W∈L\/(L.length=most/\∀ T∈L,pl ls T W)
end My
namespace L2
open PySem PySem.Spec PyProof.Rows PySem.W My
theorem SameX.same{Pt:Addr}{H H':Hp}(s:Same H H'):SameX Pt H H':=fun b o _ e=>s b o e
theorem SameX.trans{Pt:Addr}{H H1 H2:Hp}(a:SameX Pt H H1)(b:SameX Pt H1 H2):SameX Pt H H2:=fun c o hc e=>b c o hc (a c o hc e)
theorem TabH.same{H H':Hp}{Pt:Addr}{pos:Pos}{qual:Str}(t:TabH H Pt pos qual)(s:Same H H'):TabH H' Pt pos qual:=by
 obtain⟨ps,h1,h2,h3⟩:=t;refine⟨ps,s _ _ h1,h2,?_⟩;rcases h3 with h | ⟨c,h,h'⟩
 ·exact .inl h
 ·exact .inr ⟨c,h,s _ _ h'⟩
theorem TabH.ne{H:Hp}{Pt a:Addr}{pos:Pos}{qual:Str}{o:HO}(t:TabH H Pt pos qual)(h:H a=some o)(hn:∀ ps,o≠.tbl ps):a≠Pt:=fun e=>by obtain⟨ps,h1,_⟩:=t;rw[e,h1]at h;exact hn ps (Yc h).symm
theorem TabH.put{H:Hp}{Pt r:Addr}{pos:Pos}{qual:Str}{zs:List V}{u:List V}(t:TabH H Pt pos qual)(hr:H r=some (.lst zs)):TabH (upd H r (.lst u)) Pt pos qual:=by
 obtain⟨ps,h1,h2,h3⟩:=t;refine⟨ps,by rw[Zc (Zr3 h1 hr (by simp))];exact h1,h2,?_⟩;rcases h3 with h | ⟨c,h,h'⟩
 ·exact .inl h
 ·exact .inr ⟨c,h,by rw[Zc (Zr3 h' hr (by unfold CdO;simp))];exact h'⟩
end L2
namespace My
open PySem L2
theorem ZN3{m i:Nat}(h:i<m):(rgL m).getD i 0=(i:Int):=by unfold rgL;rw[Yy3,Ym,Y0k h];rfl
theorem ZV8{ls ms:List Int}{m:Nat}(h:Zp10 (fun z=>lnz ls z) (rgL m) ms):OrdL ls m ms:=by
 obtain⟨p,hp,hw,rfl⟩:=h;rw[Zy]at hp;have hb:∀ i∈p,i<m:=fun i hi=>YD.mp (hp.mem_iff.mp hi)
 have e:(p.map fun i=>(rgL m).getD i 0)=p.map fun(i:Nat)=>(i:Int):=YL fun i hi=>ZN3 (hb i hi);rw[e];refine⟨hp.map _,?_⟩;rw[Y0V];refine hw.imp_of_mem fun {i j} hi hj h=>?_;have h:lnz ls ((rgL m).getD i 0)<lnz ls ((rgL m).getD j 0)\/(lnz ls ((rgL m).getD i 0)=lnz ls ((rgL m).getD j 0)/\i<j):=h
 rw[ZN3 (hb i hi),ZN3 (hb j hj)]at h;omega
theorem SqK.samex{kd:Bool}{K:PySem.W.Frag}{H H2:Hp}{a Pt:Addr}{xs:List V}{pos:Pos}{qual:Str}(h:SqK kd K H a xs)(t:TabH H Pt pos qual)(sx:SameX Pt H H2):SqK kd K H2 a xs:=by
 cases kd with
 | true=>exact SqT.samex (show SqT K H a xs from h) t sx
 | false =>
  rcases(show SqL K H a xs from h) with (h | ⟨o,h⟩) | h
  ·exact .inl (.inl (sx _ _ (t.ne h (by simp)) h))
  ·exact .inl (.inr ⟨o,sx _ _ (t.ne h (by simp)) h⟩)
  ·exact .inr h
theorem WebAt.samex{C w Pt:Addr}{H H2:Hp}{n:Int}{ps:List (Int × Int)}{pos:Pos}{qual:Str}(h:WebAt C H w n ps)(t:TabH H Pt pos qual)(sx:SameX Pt H H2):WebAt C H2 w n ps:=by obtain⟨dx,tl,xs,h1,h2,h3⟩:=h;refine⟨dx,tl,xs,sx _ _ (t.ne h1 (by simp)) h1,sx _ _ (t.ne h2 (by simp)) h2,h3.1,fun i p hp=>?_⟩;obtain⟨x,hx,q,e,hq⟩:=h3.2 i p hp;exact⟨x,hx,q,e,sx _ _ (t.ne hq (by simp)) hq⟩
def FstT(n:Int)(ps:List (Int × Int))(ls T:List Int):Prop:=Zd n ps T/\∀ W,Zd n ps W->W=T\/pl ls T W
theorem FstT.uniq{n:Int}{ps:List (Int × Int)}{ls T U:List Int}(h1:FstT n ps ls T)(h2:FstT n ps ls U):T=U:=by
 rcases h1.2 U h2.1 with e | e
 ·exact e.symm
 ·rcases h2.2 T h1.1 with f | f
  ·exact f
  ·exact absurd (e.trans f) Zp1
theorem Zz513{n:Int}{ps:List (Int × Int)}{ls U:List Int}(t1:Zd n ps U)(t2:∀ W,Zd n ps W->sumL ls U<=sumL ls W)(t3:∀ W,Zd n ps W->sumL ls U=sumL ls W->HT.lexLt W U=false):FstT n ps ls U:=by
 refine⟨t1,fun W hW=>?_⟩;by_cases e:W=U
 ·exact .inl e
 ·refine .inr (pl_iff.mpr ?_);have h:=t2 W hW
  by_cases c:sumL ls U<sumL ls W
  ·exact .inl c
  ·refine .inr ⟨by omega,?_⟩;rcases Zo4 U W (by have:=t1.2.1;have:=hW.2.1;omega) (fun h=>e h.symm) with q | q
   ·exact q
   ·rw[t3 W hW (by omega)]at q;cases q
theorem Zz810{n:Int}{ps:List (Int × Int)}{ls U:List Int}(g:Zu n ps)(hl:ls.length=ps.length)(hU:Zd n (cwT n.toNat ps ls) U)(hm:∀ W,Zd n (cwT n.toNat ps ls) W->HT.lexLt W U=false):FstT n ps ls U:=by obtain⟨t1,t2⟩:=(ZS1 g hl).mp hU;exact Zz513 t1 t2 fun W hW e=>hm W ((ZS1 g hl).mpr ⟨hW,fun V hV=>by have:=t2 V hV;omega⟩)
theorem Zz99{n:Int}{ps:List (Int × Int)}{ls:List Int}{k:Nat}{L M:List (List Int)}(h1:Rkd n ps ls k L)(h2:Rkd n ps ls k M):L=M:=by
 have nd:∀ {R},Rkd n ps ls k R->R.Nodup:=fun h=>h.asc.imp fun q e=>by rw[e]at q;exact Zp1 q
 have key:∀ {L M},Rkd n ps ls k L->Rkd n ps ls k M->∀ W∈L,W∈M:=fun {L M} h1 h2 W hW=>by
  rcases h2.all W (h1.tr W hW) with q | ⟨q1,q2⟩
  ·exact q
  ·refine Yf fun no=>?_;by_cases c:∀ T∈M,T∈L
   ·have:=ZM1 (l:=W :: M) (m:=L) (Yy09.mpr ⟨no,nd h2⟩) fun x hx=>(Yh.mp hx).elim (fun e=>e ▸ hW) (c x)
    rw[YA]at this
    have:=h1.few
    omega
   ·obtain⟨T,hT,hn⟩:∃ T,T∈M/\T∉L:=Yf fun z=>c fun T hT=>Yf fun hn=>z ⟨T,hT,hn⟩;have a:=((h1.all T (h2.tr T hT)).resolve_left hn).2 W hW
    exact Zp1 (a.trans (q2 T hT))
 refine List.Perm.eq_of_pairwise (le:=pl ls) (fun a b _ _ x y=>absurd (x.trans y) Zp1) h1.asc h2.asc ?_;exact(Y0r (nd h1) (nd h2)).mpr fun x=>⟨key h1 h2 x,key h2 h1 x⟩
theorem Zb9{n:Int}{ps:List (Int × Int)}{ls U:List Int}{k:Nat}{L:List (List Int)}(hk:0<k)(h:Rkd n ps ls k L)(hU:FstT n ps ls U):L[0]?=some U:=by
 have hm:U∈L:=by
  rcases h.all U hU.1 with q | ⟨q1,q2⟩
  ·exact q
  ·obtain⟨T,hT⟩:∃ T,T∈L:=Y2A (by omega);rcases hU.2 T (h.tr T hT) with e | e
   ·exact e ▸ hT
   ·exact absurd (e.trans (q2 T hT)) Zp1
 obtain⟨i,hi⟩:=YZ hm;rcases Nat.eq_zero_or_pos i with z | z
 ·rw[<- z];exact hi
 ·obtain⟨b1,b2⟩:=Yy2.mp hi
  have:=Yy00.mp h.asc 0 i (by omega) b1 z
  rw[b2]at this;rcases hU.2 (L[0]'(by omega)) (h.tr _ (Y0j _)) with e | e
  ·rw[Yy0 (by omega),e]
  ·exact absurd (e.trans this) Zp1
end My
namespace My
theorem un1{α:Type}{P:List α->Prop}(h:∀ a,P [a])(l:List α)(e:l.length=1):P l:=by obtain⟨a,rfl⟩:=len1 e;exact h a
theorem un2{α:Type}{P:List α->Prop}(h:∀ a b,P [a,b])(l:List α)(e:l.length=2):P l:=by obtain⟨a,b,rfl⟩:=len2 e;exact h a b
theorem un3{α:Type}{P:List α->Prop}(h:∀ a b c,P [a,b,c])(l:List α)(e:l.length=3):P l:=by obtain⟨a,b,c,rfl⟩:=len3 e;exact h a b c
theorem un4{α:Type}{P:List α->Prop}(h:∀ a b c d,P [a,b,c,d])(l:List α)(e:l.length=4):P l:=by obtain⟨a,b,c,d,rfl⟩:=len4 e;exact h a b c d
theorem un5{α:Type}{P:List α->Prop}(h:∀ a b c d e,P [a,b,c,d,e])(l:List α)(e:l.length=5):P l:=by
 cases l with
 | nil=>cases e
 | cons x r =>
  obtain⟨a,b,c,d,rfl⟩:=len4 (Y1d e);exact h x a b c d
end My
namespace My
open PySem L2
theorem ZA5{n:Int}{ps qs:List (Int × Int)}{c d:Nat}(e:∀ T,Zd n ps T↔Zd n qs T)(h1:TC n ps c)(h2:TC n qs d):c=d:=by obtain⟨L,a1,a2,a3⟩:=h1;exact TC.uniq ⟨L,a1,fun l=>(a2 l).trans (e l),a3⟩ h2
theorem ZS10{n:Int}{ps qs:List (Int × Int)}{T:List Int}{r:Nat}(e:∀ T,Zd n ps T↔Zd n qs T)(h1:Rk n ps T r):Rk n qs T r:=by obtain⟨L,a1,a2,a3⟩:=h1;exact⟨L,a1,fun l=>(a2 l).trans (and_congr_left fun _=>e l),a3⟩
theorem ZU1{n:Int}{ps:List (Int × Int)}{c:Nat}(h:TC n ps c):c=0↔∀ T,¬ Zd n ps T:=by
 obtain⟨L,a1,a2,a3⟩:=h;constructor
 ·intro e T hT;rw[e]at a3
  have:=(a2 T).mpr hT
  rw[YK.mp a3]at this;cases this
 ·intro e;rw[<- a3,YK];exact Y1u.mpr fun T hT=>e T ((a2 T).mp hT)
theorem ZC10{n:Int}{ps:List (Int × Int)}{c:Nat}{T:List Int}(h:TC n ps c)(hT:Zd n ps T)(hu:∀ W,Zd n ps W->W=T):c=1:=by refine h.uniq ⟨[T],by simp,fun l=>?_,rfl⟩;rw[Yy1];exact⟨fun e=>e ▸ hT,hu l⟩
def scL(c d:Int)(ls:List Int):List Int:=ls.map fun x=>x * c+d
theorem Zb8(c d:Int)(ls:List Int):(scL c d ls).length=ls.length:=Yb _
theorem Zz69{c d:Int}{ls:List Int}{x:Int}(h0:0<=x)(h1:x<(ls.length:Int)):lnz (scL c d ls) x=lnz ls x * c+d:=by show(ls.map fun x=>x * c+d).getD x.toNat 0=ls.getD x.toNat 0 * c+d;rw[Yy3,Yy3,Ym,Yy0 (by omega)];rfl
theorem ZC5{c d:Int}{ls:List Int}:∀ {T:List Int},(∀ z∈T,0<=z/\z<(ls.length:Int))->sumL (scL c d ls) T=sumL ls T * c+d * T.length
 | [],_=>by simp[sumL]
 | x :: T,h=>by
  have ih:=ZC5 (c:=c) (d:=d) fun z hz=>h z (Yg _ hz);obtain⟨h0,h1⟩:=h x Ye;show lnz (scL c d ls) x+sumL (scL c d ls) T=(lnz ls x+sumL ls T) * c+d * ((T.length+1:Nat):Int)
  rw[Zz69 h0 h1,ih];grind
theorem Zl11{a b c:Int}(hc:0<c):a * c<b * c↔a<b:=⟨fun h=>Int.lt_of_mul_lt_mul_right h (Int.le_of_lt hc),fun h=>Int.mul_lt_mul_of_pos_right h hc⟩
section
variable{n:Int}{ps:List (Int × Int)}{ls T W:List Int}{c d:Int}
theorem ZJ3(hl:ls.length=ps.length)(hT:Zd n ps T):sumL (scL c d ls) T=sumL ls T * c+d * (n - 1):=by rw[ZC5 fun z hz=>by rw[hl];exact hT.1.all z hz,hT.2.1]
theorem ZC9(hc:0<c)(hl:ls.length=ps.length)(hT:Zd n ps T)(hW:Zd n ps W):sumL (scL c d ls) T<sumL (scL c d ls) W↔sumL ls T<sumL ls W:=by rw[ZJ3 hl hT,ZJ3 hl hW,<- Zl11 (a:=sumL ls T) hc];omega
theorem Zl9(hc:0<c)(hl:ls.length=ps.length)(hT:Zd n ps T)(hW:Zd n ps W):pl (scL c d ls) T W↔pl ls T W:=by
 rw[pl_iff,pl_iff];have h1:=ZC9 (d:=d) hc hl hT hW
 have h2:=ZC9 (d:=d) hc hl hW hT;constructor
 ·rintro(h | ⟨h,h'⟩)
  ·exact .inl (h1.mp h)
  ·exact .inr ⟨by omega,h'⟩
 ·rintro(h | ⟨h,h'⟩)
  ·exact .inl (h1.mpr h)
  ·exact .inr ⟨by omega,h'⟩
theorem ZL11(hc:0<c)(hl:ls.length=ps.length)(h:FstT n ps (scL c d ls) T):FstT n ps ls T:=⟨h.1,fun W hW=>(h.2 W hW).imp id (Zl9 hc hl h.1 hW).mp⟩
theorem ZQ10{k:Nat}{L:List (List Int)}(hc:0<c)(hl:ls.length=ps.length)(h:Rkd n ps (scL c d ls) k L):Rkd n ps ls k L :=
 ⟨h.tr,Y1R (fun ha hb q=>(Zl9 hc hl (h.tr _ ha) (h.tr _ hb)).mp q) h.asc,h.few,fun W hW=>(h.all W hW).imp id fun q=>⟨q.1,fun T hT=>(Zl9 hc hl (h.tr T hT) hW).mp (q.2 T hT)⟩⟩
theorem Zc13(g:Zu n ps)(hc:0<c)(hl:ls.length=ps.length)(T:List Int):Zd n (cwT n.toNat ps (scL c d ls)) T↔Zd n (cwT n.toNat ps ls) T:=by
 rw[ZS1 g (by rw[Zb8];exact hl),ZS1 g hl];refine Y1J fun hT=>forall_congr' fun W=>forall_congr' fun hW=>?_
 have:=ZC9 (d:=d) hc hl hW hT
 omega
theorem ZJ11(hc:0<c)(hl:ls.length=ps.length)(hT:Zd n ps T):gns n ps (scL c d ls) T=gns n ps ls T:=by
 refine Y1b fun p hp=>?_;obtain⟨o,ho,h2⟩:=Y1i.mp hp;obtain⟨z,hz,rfl⟩:=Yr.mp h2;obtain⟨z0,z1⟩:=Zx1 (wo_mem.mp hz).1;obtain⟨o0,o1⟩:=hT.1.all o ho;show decide (lnz (scL c d ls) z<lnz (scL c d ls) o)=decide (lnz ls z<lnz ls o)
 rw[Y1X,Zz69 z0 (by omega),Zz69 o0 (by omega),<- Zl11 (a:=lnz ls z) hc];omega
theorem ZD2(f:Int):∀ {T:List Int},(∀ z∈T,0<=z/\z<(ps.length:Int))->sumL (List.replicate ps.length f) T=f * T.length
 | [],_=>by simp[sumL]
 | x :: T,h=>by
  have ih:=ZD2 f fun z hz=>h z (Yg _ hz);obtain⟨h0,h1⟩:=h x Ye;have e:lnz (List.replicate ps.length f) x=f:=by show(List.replicate ps.length f).getD x.toNat 0=f;rw[Yy3,Y0X,if_pos (by omega)];rfl
  show lnz (List.replicate ps.length f) x+sumL (List.replicate ps.length f) T=f * ((T.length+1:Nat):Int);rw[e,ih];grind
theorem ZL4(g:Zu n ps)(f:Int)(T:List Int):Zd n (cwT n.toNat ps (List.replicate ps.length f)) T↔Zd n ps T:=by rw[ZS1 g YC];refine⟨fun h=>h.1,fun h=>⟨h,fun W hW=>?_⟩⟩;rw[ZD2 f h.1.all,ZD2 f hW.1.all,h.2.1,hW.2.1];exact Y0v _
theorem Zz312(g:Zu n ps)(hl:ls.length=ps.length)(hi:∀ y z,0<=y->y<(ps.length:Int)->0<=z->z<(ps.length:Int)->lnz ls y=lnz ls z->y=z)(hT:Zd n (cwT n.toNat ps ls) T)(hW:Zd n (cwT n.toNat ps ls) W):W=T:=by
 obtain⟨t1,t2⟩:=(ZS1 g hl).mp hT;obtain⟨w1,w2⟩:=(ZS1 g hl).mp hW;refine ZK3 g w1 t1 fun z hz=>Yf fun hn=>?_;obtain⟨y,h1,h2⟩:=ZA1 g w1 t1 hz hn;have a:=Zz76 g w1 w2 z y h1
 have b:=Zz76 g t1 t2 y z h2;obtain⟨z0,z1⟩:=w1.1.all z hz;obtain⟨y0,y1⟩:=t1.1.all y h2.1;have e:=hi y z y0 y1 z0 z1 (by omega)
 exact hn (e ▸ h2.1)
end
def rsL(m:Nat):List Int:=(rgL m).map fun z=>3 * z - 7
theorem ZN10(m:Nat):(rsL m).length=m:=by unfold rsL;rw[Yb,Zy]
theorem Zh7{m:Nat}{z:Int}(h0:0<=z)(h1:z<(m:Int)):lnz (rsL m) z=3 * z - 7:=by
 show((rgL m).map fun z=>3 * z - 7).getD z.toNat 0=_;have e:=Ze8 (n:=m) (i:=z.toNat) (by omega)
 rw[Yy3,Ym,e]
 have:((z.toNat:Nat):Int)=z:=by omega
 rw[this];rfl
theorem ZD12{n:Int}{ps:List (Int × Int)}{T:List Int}(g:Zu n ps)(hT:Zd n ps T)(hR:Rk n ps T 0):FstT n ps (rsL ps.length) T:=by
 have ho:OrdL (rsL ps.length) ps.length (rgL ps.length):=⟨.refl _,Y1R (fun {a b} ha hb h=>.inl (by
  obtain⟨a0,a1⟩:=rgL_mem.mp ha;obtain⟨b0,b1⟩:=rgL_mem.mp hb;rw[Zh7 a0 a1,Zh7 b0 b1]
  omega)) (Zh4 _)⟩
 have e:((rgL ps.length).filter fun z=>decide (z∉([]:List Int)))=rgL ps.length:=Y0Y.mpr fun z _=>by simp
 have eg:grw n.toNat ps (rgL ps.length)=grd n.toNat ps ps.length:=ZW2 _ _ _;have hG:=ZY3 g hT
 have b:=Zv6 (I:=[]) (O:=[]) (ms:=grd n.toNat ps ps.length) g ho (fun z h=>by cases h) (fun z h=>by cases h) rfl (by
  rw[e,Y0L,eg]
  have:=hG.2.1
  omega) (by rw[e,Y0L,eg]) ((isSet_iff.mp hG.1).2.imp fun h=>by omega)
 have eT:T=grd n.toNat ps ps.length:=by
  obtain⟨L,_,a2,a3⟩:=hR;refine Yf fun hn=>?_;rcases Zo4 T (grd n.toNat ps ps.length) (by have:=hT.2.1;have:=hG.2.1;omega) hn with q | q
  ·rw[Yz4 g hT]at q;cases q
  ·have:=(a2 _).mpr ⟨hG,q⟩
   rw[YK.mp a3]at this;cases this
 rw[eT];exact⟨hG,fun W hW=>b.2 W ⟨hW,⟨fun z h=>(by cases h),fun z h=>(by cases h)⟩⟩⟩
theorem Zz613{n:Int}{ps:List (Int × Int)}{ls T:List Int}(g:Zu n ps)(hl:ls.length=ps.length)(h:FstT n ps ls T):Zd n (cwT n.toNat ps ls) T:=(ZS1 g hl).mpr ⟨h.1,fun W hW=>by
 rcases h.2 W hW with e | e
 ·rw[e];exact Y0v _
 ·rcases pl_iff.mp e with q | q
  ·omega
  ·omega⟩
theorem ZR10{n:Int}{ps:List (Int × Int)}{ls U:List Int}{L:List (List Int)}(h:Rkd n ps ls 1 L)(hU:FstT n ps ls U):L=[U]:=by
 have h0:=Zb9 (by decide) h hU
 have:=h.few
 match L,h0 with
 | [x],e=>rw[Yc e]
 | x :: y :: l,_=>simp at this
theorem Za9{n:Int}{ps:List (Int × Int)}{ls:List Int}{k:Nat}{L:List (List Int)}(h:Rkd n ps ls k L)(hn:∀ T,¬ Zd n ps T):L=[]:=Y1u.mpr fun T hT=>hn T (h.tr T hT)
def top(i:Nat):Stmt:=PySem.Challenge.pw_spanrow_k67_whole_lengths_changed.main.body.getD i (.Pass ⟨0,0,0,0⟩)
abbrev sZ0:Stmt:=top 10
abbrev sZ1:Stmt:=top 11
abbrev sZ2:Stmt:=top 12
abbrev sZ3:Stmt:=top 13
abbrev sZ4:Stmt:=top 14
abbrev sZ5:Stmt:=top 15
abbrev sZ6:Stmt:=top 21
abbrev sZ7:Stmt:=top 20
abbrev sZ8:Stmt:=ZG11 (top 19) 0
abbrev sZ9:Stmt:=top 22
abbrev sZa:Stmt:=top 23
abbrev sZb:Stmt:=top 24
abbrev sZc:Stmt:=top 25
abbrev sZd:Stmt:=top 26
abbrev sZe:Stmt:=top 27
abbrev sZf:Stmt:=top 28
abbrev sZg:Stmt:=top 29
abbrev sZh:Stmt:=top 30
abbrev sZi:Stmt:=top 31
abbrev sZj:Stmt:=top 33
abbrev sZk:Stmt:=top 34
abbrev sZl:Stmt:=top 35
abbrev sZm:Stmt:=top 36
abbrev sZn:Stmt:=top 38
abbrev sZo:Stmt:=top 39
abbrev sZp:Stmt:=top 40
abbrev sZq:Stmt:=top 41
abbrev sZr:Stmt:=top 42
abbrev sZs:Stmt:=top 43
abbrev sZt:Stmt:=top 45
abbrev sZu:Stmt:=top 47
abbrev sZv:Stmt:=top 48
abbrev sZw:Stmt:=top 49
abbrev sZx:Stmt:=top 50
abbrev sZy:Stmt:=top 51
abbrev sZz:Stmt:=top 52
abbrev sZA:Stmt:=top 53
abbrev sZB:Stmt:=top 55
abbrev sZC:Stmt:=top 56
abbrev sZD:Stmt:=top 57
abbrev sZE:Stmt:=top 59
abbrev sZF:Stmt:=top 60
abbrev sZG:Stmt:=top 61
abbrev sZH:Stmt:=top 62
abbrev sZI:Stmt:=top 63
abbrev sZJ:Stmt:=top 64
abbrev sZK:Stmt:=top 65
abbrev sZL:Stmt:=top 66
set_option genInjectivity false in
structure Adr where
 aZ0:Addr
 dZ0:FuncData
 aZ1:Addr
 dZ1:FuncData
 aZ2:Addr
 dZ2:FuncData
 aZ3:Addr
 dZ3:FuncData
 aZ4:Addr
 dZ4:FuncData
 aZ5:Addr
 dZ5:FuncData
 aZ6:Addr
 dZ6:FuncData
 aZ7:Addr
 dZ7:FuncData
 aZ8:Addr
 dZ8:FuncData
 aZ9:Addr
 dZ9:FuncData
 aZa:Addr
 dZa:FuncData
 aZb:Addr
 dZb:FuncData
 aZc:Addr
 dZc:FuncData
 aZd:Addr
 dZd:FuncData
 aZe:Addr
 dZe:FuncData
 aZf:Addr
 dZf:FuncData
 aZg:Addr
 dZg:FuncData
 aZh:Addr
 dZh:FuncData
 aZi:Addr
 dZi:FuncData
 aZj:Addr
 dZj:FuncData
 aZk:Addr
 dZk:FuncData
 aZl:Addr
 dZl:FuncData
 aZm:Addr
 dZm:FuncData
 aZn:Addr
 dZn:FuncData
 aZo:Addr
 dZo:FuncData
 aZp:Addr
 dZp:FuncData
 aZq:Addr
 dZq:FuncData
 aZr:Addr
 dZr:FuncData
 aZs:Addr
 dZs:FuncData
 aZt:Addr
 dZt:FuncData
 aZu:Addr
 dZu:FuncData
 aZv:Addr
 dZv:FuncData
 aZw:Addr
 dZw:FuncData
 aZx:Addr
 dZx:FuncData
 aZy:Addr
 dZy:FuncData
 aZz:Addr
 dZz:FuncData
 aZA:Addr
 dZA:FuncData
 aZB:Addr
 dZB:FuncData
 aZC:Addr
 dZC:FuncData
 aZD:Addr
 dZD:FuncData
 aZE:Addr
 dZE:FuncData
 aZF:Addr
 dZF:FuncData
 aZG:Addr
 dZG:FuncData
 aZH:Addr
 dZH:FuncData
 aZI:Addr
 dZI:FuncData
 aZJ:Addr
 dZJ:FuncData
 aZK:Addr
 dZK:FuncData
 aZL:Addr
 dZL:FuncData
 A_Web:Addr
structure Txt (K:PySem.W.Frag) (mg:Str->Option Value) (t:Adr):Prop where
 fZ0:Fun K "refuse_not_square" "refuse_not_square" sZ0 t.aZ0 t.dZ0
 bZ0:Binds K t.dZ0 ["table"] []
 mZ0:mg "refuse_not_square"=some (.ref t.aZ0)
 fZ1:Fun K "row_taken_off" "row_taken_off" sZ1 t.aZ1 t.dZ1
 bZ1:Binds K t.dZ1 ["row","pivot","last"] []
 mZ1:mg "row_taken_off"=some (.ref t.aZ1)
 fZ2:Fun K "first_with_some" "first_with_some" sZ2 t.aZ2 t.dZ2
 bZ2:Binds K t.dZ2 ["rows"] []
 mZ2:mg "first_with_some"=some (.ref t.aZ2)
 fZ3:Fun K "determinant" "determinant" sZ3 t.aZ3 t.dZ3
 bZ3:Binds K t.dZ3 ["table"] []
 mZ3:mg "determinant"=some (.ref t.aZ3)
 fZ4:Fun K "row_without" "row_without" sZ4 t.aZ4 t.dZ4
 bZ4:Binds K t.dZ4 ["row","number"] []
 mZ4:mg "row_without"=some (.ref t.aZ4)
 fZ5:Fun K "table_without" "table_without" sZ5 t.aZ5 t.dZ5
 bZ5:Binds K t.dZ5 ["table","number"] []
 mZ5:mg "table_without"=some (.ref t.aZ5)
 fZ6:Fun K "is_tie" "is_tie" sZ6 t.aZ6 t.dZ6
 bZ6:Binds K t.dZ6 ["web","number"] []
 mZ6:mg "is_tie"=some (.ref t.aZ6)
 fZ7:Fun K "refuse_bad_web" "refuse_bad_web" sZ7 t.aZ7 t.dZ7
 bZ7:Binds K t.dZ7 ["places","ties"] []
 mZ7:mg "refuse_bad_web"=some (.ref t.aZ7)
 fZ8:Fun K "__init__" "Web.__init__" sZ8 t.aZ8 t.dZ8
 bZ8:Binds K t.dZ8 ["self","places","ties"] []
 fZ9:Fun K "refuse_bad_row" "refuse_bad_row" sZ9 t.aZ9 t.dZ9
 bZ9:Binds K t.dZ9 ["web","numbers"] []
 mZ9:mg "refuse_bad_row"=some (.ref t.aZ9)
 fZa:Fun K "all_ties" "all_ties" sZa t.aZa t.dZa
 bZa:Binds K t.dZa ["web"] []
 mZa:mg "all_ties"=some (.ref t.aZa)
 fZb:Fun K "ties_without" "ties_without" sZb t.aZb t.dZb
 bZb:Binds K t.dZb ["ties","left_out"] []
 mZb:mg "ties_without"=some (.ref t.aZb)
 fZc:Fun K "is_set" "is_set" sZc t.aZc t.dZc
 bZc:Binds K t.dZc ["web","ties"] []
 mZc:mg "is_set"=some (.ref t.aZc)
 fZd:Fun K "made_set" "made_set" sZd t.aZd t.dZd
 bZd:Binds K t.dZd ["web","ties"] []
 mZd:mg "made_set"=some (.ref t.aZd)
 fZe:Fun K "merged_marks" "merged_marks" sZe t.aZe t.dZe
 bZe:Binds K t.dZe ["web","marks","ties"] []
 mZe:mg "merged_marks"=some (.ref t.aZe)
 fZf:Fun K "piece_marks" "piece_marks" sZf t.aZf t.dZf
 bZf:Binds K t.dZf ["web","ties"] []
 mZf:mg "piece_marks"=some (.ref t.aZf)
 fZg:Fun K "pieces_of" "pieces_of" sZg t.aZg t.dZg
 bZg:Binds K t.dZg ["web","ties"] []
 mZg:mg "pieces_of"=some (.ref t.aZg)
 fZh:Fun K "is_joined" "is_joined" sZh t.aZh t.dZh
 bZh:Binds K t.dZh ["web","ties"] []
 mZh:mg "is_joined"=some (.ref t.aZh)
 fZi:Fun K "refuse_parted" "refuse_parted" sZi t.aZi t.dZi
 bZi:Binds K t.dZi ["web"] []
 mZi:mg "refuse_parted"=some (.ref t.aZi)
 fZj:Fun K "weighted_table" "weighted_table" sZj t.aZj t.dZj
 bZj:Binds K t.dZj ["web","weights"] []
 mZj:mg "weighted_table"=some (.ref t.aZj)
 fZk:Fun K "pull_table" "pull_table" sZk t.aZk t.dZk
 bZk:Binds K t.dZk ["web"] []
 mZk:mg "pull_table"=some (.ref t.aZk)
 fZl:Fun K "tree_count" "tree_count" sZl t.aZl t.dZl
 bZl:Binds K t.dZl ["web"] []
 mZl:mg "tree_count"=some (.ref t.aZl)
 fZm:Fun K "part_count" "part_count" sZm t.aZm t.dZm
 bZm:Binds K t.dZm ["web","inside","outside"] []
 mZm:mg "part_count"=some (.ref t.aZm)
 fZn:Fun K "is_tree" "is_tree" sZn t.aZn t.dZn
 bZn:Binds K t.dZn ["web","ties"] []
 mZn:mg "is_tree"=some (.ref t.aZn)
 fZo:Fun K "refuse_no_tree" "refuse_no_tree" sZo t.aZo t.dZo
 bZo:Binds K t.dZo ["web","tree"] []
 mZo:mg "refuse_no_tree"=some (.ref t.aZo)
 fZp:Fun K "grown_tree" "grown_tree" sZp t.aZp t.dZp
 bZp:Binds K t.dZp ["web","inside","order"] []
 mZp:mg "grown_tree"=some (.ref t.aZp)
 fZq:Fun K "least_tree" "least_tree" sZq t.aZq t.dZq
 bZq:Binds K t.dZq ["web"] []
 mZq:mg "least_tree"=some (.ref t.aZq)
 fZr:Fun K "tree_cut" "tree_cut" sZr t.aZr t.dZr
 bZr:Binds K t.dZr ["web","tree","tie"] []
 mZr:mg "tree_cut"=some (.ref t.aZr)
 fZs:Fun K "exchanges_of" "exchanges_of" sZs t.aZs t.dZs
 bZs:Binds K t.dZs ["web","tree"] []
 mZs:mg "exchanges_of"=some (.ref t.aZs)
 fZt:Fun K "tree_at" "tree_at" sZt t.aZt t.dZt
 bZt:Binds K t.dZt ["web","number"] []
 mZt:mg "tree_at"=some (.ref t.aZt)
 fZu:Fun K "length_of" "length_of" sZu t.aZu t.dZu
 bZu:Binds K t.dZu ["web","lengths","ties"] []
 mZu:mg "length_of"=some (.ref t.aZu)
 fZv:Fun K "cheapest_web" "cheapest_web" sZv t.aZv t.dZv
 bZv:Binds K t.dZv ["web","lengths"] []
 mZv:mg "cheapest_web"=some (.ref t.aZv)
 fZw:Fun K "cheapest_tree" "cheapest_tree" sZw t.aZw t.dZw
 bZw:Binds K t.dZw ["web","lengths"] []
 mZw:mg "cheapest_tree"=some (.ref t.aZw)
 fZx:Fun K "gains_of" "gains_of" sZx t.aZx t.dZx
 bZx:Binds K t.dZx ["web","lengths","tree"] []
 mZx:mg "gains_of"=some (.ref t.aZx)
 fZy:Fun K "is_cheapest" "is_cheapest" sZy t.aZy t.dZy
 bZy:Binds K t.dZy ["web","lengths","tree"] []
 mZy:mg "is_cheapest"=some (.ref t.aZy)
 fZz:Fun K "cheapest_count" "cheapest_count" sZz t.aZz t.dZz
 bZz:Binds K t.dZz ["web","lengths"] []
 mZz:mg "cheapest_count"=some (.ref t.aZz)
 fZA:Fun K "cheapest_at" "cheapest_at" sZA t.aZA t.dZA
 bZA:Binds K t.dZA ["web","lengths","number"] []
 mZA:mg "cheapest_at"=some (.ref t.aZA)
 fZB:Fun K "first_of" "first_of" sZB t.aZB t.dZB
 bZB:Binds K t.dZB ["web","lengths","order","inside","outside"] []
 mZB:mg "first_of"=some (.ref t.aZB)
 fZC:Fun K "firsts_behind" "firsts_behind" sZC t.aZC t.dZC
 bZC:Binds K t.dZC ["web","lengths","order","taken"] []
 mZC:mg "firsts_behind"=some (.ref t.aZC)
 fZD:Fun K "ranked" "ranked" sZD t.aZD t.dZD
 bZD:Binds K t.dZD ["web","lengths","most"] []
 mZD:mg "ranked"=some (.ref t.aZD)
 fZE:Fun K "_law_at" "_law_at" sZE t.aZE t.dZE
 bZE:Binds K t.dZE ["script","k"] []
 mZE:mg "_law_at"=some (.ref t.aZE)
 fZF:Fun K "_law_stir" "_law_stir" sZF t.aZF t.dZF
 bZF:Binds K t.dZF ["cell","k"] []
 mZF:mg "_law_stir"=some (.ref t.aZF)
 fZG:Fun K "_law_numbers" "_law_numbers" sZG t.aZG t.dZG
 bZG:Binds K t.dZG ["script","start","most"] []
 mZG:mg "_law_numbers"=some (.ref t.aZG)
 fZH:Fun K "_law_digits" "_law_digits" sZH t.aZH t.dZH
 bZH:Binds K t.dZH ["cell","most_places","most_ties"] []
 mZH:mg "_law_digits"=some (.ref t.aZH)
 fZI:Fun K "_law_web" "_law_web" sZI t.aZI t.dZI
 bZI:Binds K t.dZI ["script","most_places","most_ties"] []
 mZI:mg "_law_web"=some (.ref t.aZI)
 fZJ:Fun K "_law_lengths" "_law_lengths" sZJ t.aZJ t.dZJ
 bZJ:Binds K t.dZJ ["script","count"] []
 mZJ:mg "_law_lengths"=some (.ref t.aZJ)
 fZK:Fun K "_law_alike" "_law_alike" sZK t.aZK t.dZK
 bZK:Binds K t.dZK ["web","places","lengths","more","scale"] []
 mZK:mg "_law_alike"=some (.ref t.aZK)
 fZL:Fun K "law" "law" sZL t.aZL t.dZL
 bZL:Binds K t.dZL ["script"] []
 mZL:mg "law"=some (.ref t.aZL)
 c_Web:mg "Web"=some (.ref t.A_Web)
 cl_Web:Cls K t.A_Web
 k_Web:Mk K t.A_Web t.aZ8
 n_Web_places:NoAttr K t.A_Web "places"
 n_Web_ties:NoAttr K t.A_Web "ties"
 g_MOST_PLACES:∃ tk,mg "MOST_PLACES"=some (.int 14 tk)
 g_MOST_TIES:∃ tk,mg "MOST_TIES"=some (.int 30 tk)
 n_enumerate:mg "enumerate"=none
 n_len:mg "len"=none
 n_list:mg "list"=none
 n_max:mg "max"=none
 n_min:mg "min"=none
 n_range:mg "range"=none
 n_set:mg "set"=none
 n_sorted:mg "sorted"=none
 n_sum:mg "sum"=none
 n_tuple:mg "tuple"=none
 n_zip:mg "zip"=none
end My
namespace My
open PySem L2 PyProof.Rows
set_option maxHeartbeats 4000000
section
variable{P:Program}{w:World}{K:PySem.W.Frag}{mg:Str->Option Value}{base:Heap}{t:Adr}
def spZ0(K:PySem.W.Frag):Sp:=fun vs H Q _=>∃(a:Addr) (kd:Bool) (xs:List V) (L:List (List Int)),vs=[.ref a]/\SqK kd K H a xs/\Bears (RowV K H) xs L /\
 ((∀ l∈L,l.length=L.length)->Q .non H)/\(¬ (∀ l∈L,l.length=L.length)->False)
theorem scZ0:FnScope ["table","row"] ["table"] (Zz7 sZ0):=⟨rfl,rfl,rfl,by decide +kernel,rfl,by decide +kernel,by decide +kernel⟩
theorem okZ0 (T:Txt K mg t):FnOk P w K mg base CX0 1 t.aZ0 t.dZ0 ["table"] (spZ0 K):=by
 refine T.fZ0.ok scZ0 (fun vs H Q E h=>?_) (fun cdv A outer s H vs Q E hr h=>?_)
 ·obtain⟨a,kd,xs,L,rfl,_⟩:=h;rfl
 ·obtain⟨a,kd,xs,L,rfl,hS,hB,q,qe⟩:=h;refine⟨_,(Zz6 (Ze1 YT rfl (ZN1 K (pv 0)) (Ze (i:=1) scZ0.nd rfl (Or.inl rfl))
   (Zz6 (Zj1 (Zg ZZ5 (Zl (Zk K) (by rfl) T.n_len Boot.«len» (Zz0 (pv 1) Zz3)) (Zl (Zk K) (by rfl) T.n_len Boot.«len» (Zz0 (pv 0) Zz3)) (Zr _))
   (Zz6 Zd1)
   Zs)))),?_⟩
  have hxl:=hB.1;refine⟨_,rfl,a,rfl,Zx3 (K:=K) (k:=kd) (a:=a) (xs:=xs) (fun i σ H2=>∃ v1,σ=[some (.ref a),v1]/\H2=H/\∀ l∈L.take i,l.length=L.length) ⟨none,rfl,rfl,fun l h=>(by cases h)⟩ (fun i σ H2 _ ⟨_,_,e,_⟩=>e ▸ hS) ?_ ?_⟩
  ·rintro i v σ H2 hi ⟨v1,rfl,rfl,hall⟩;obtain⟨l,hl,r,k,rfl,hr⟩:=hB.at hi;refine nm ?_;refine⟨_,rfl,r,_,rfl,hr.or,_,rfl,a,xs,rfl,hS.or,rfl,_,rfl,?_⟩;rw[Zz4,ZB];refine itn2 (fun e=>?_) (fun e=>?_)
   ·refine⟨_,rfl,rfl,fun m hm=>?_⟩;rw[YO,hl]at hm;rcases Yy9.mp hm with h | h
    ·exact hall m h
    ·have hm':m=l:=by simpa using h
     rw[hm'];omega
   ·exact qe fun h=>e (by rw[h l (Yy6 hl),hxl])
  ·rintro σ H2 ⟨v1,rfl,rfl,hall⟩;rw[hxl,YG]at hall;exact q hall
def spZ1(K:PySem.W.Frag):Sp:=fun vs H Q _=>∃(r p:Addr) (x y last:Int) (l q:List Int),vs=[.ref r,.ref p,.int last]/\SqL K H r (IL (x :: l))/\SqL K H p (IL (y :: q))/\l.length=q.length/\l.length<=1000/\last≠0/\last.natAbs<2 ^ 9000 /\
 (∀ z∈x :: l,z.natAbs<2 ^ 9000)/\(∀ z∈y :: q,z.natAbs<2 ^ 9000)/\∀(c:Addr) (H':Hp),Same H H'->H c=none->H' c=some (.lst (IL (tkn y q last (x :: l))))->Q (.ref c) H'
theorem scZ1:FnScope ["row","pivot","last"] ["row","pivot","last"] (Zz7 sZ1):=⟨rfl,rfl,rfl,by decide +kernel,rfl,by decide +kernel,by decide +kernel⟩
theorem okZ1 (T:Txt K mg t):FnOk P w K mg base CX0 1 t.aZ1 t.dZ1 ["row","pivot","last"] (spZ1 K):=by
 refine T.fZ1.ok scZ1 (fun vs H Q E h=>?_) (fun cdv A outer s H vs Q E hr h=>?_)
 ·obtain⟨r,p,x,y,last,l,q,rfl,_⟩:=h;rfl
 ·obtain⟨r,p,x,y,last,l,q',rfl,hR,hP,hlq,hl,l0,l1,hx,hy,q⟩:=h;refine⟨_,(Zz6 (Zo (Zc5 rfl (sc0:=Zz7 sZ1) (N0:=["row","pivot","last"]) (N':=["own","other","pivot","row","last"]) (o:=2) (fr:=[1,0,2]) ⟨rfl,by decide +kernel,by decide +kernel,by decide +kernel,rfl,by decide +kernel⟩ (Zm9 K rfl T.n_zip (Zz0 (Zb2 (Zz62 K) (pv 0) (Zl3 Zz9) Zm3) (Zz0 (Zb2 (Zz62 K) (pv 1) (Zl3 Zz9) Zm3) Zz3))) (Zd2 (ZM (by decide) (ZM (by decide) Ze2))) (fun _ _ _ _=>(Zz71 (n:=2) K rfl (Zp (Ze (i:=0) (show List.Nodup (["own","other","pivot","row","last"]:List Str) by decide +kernel) rfl (Or.inl rfl)) (Zp (Ze (i:=1) (show List.Nodup (["own","other","pivot","row","last"]:List Str) by decide +kernel) rfl (Or.inl rfl)) Zz61)))) (fun _ _ _ _=>ZZ) (fun _ _ _ _=>(Zj Zr9 (Zj ZQ1 (Zj Zz06 (ZP (Zm K) (pv 2) Zz9 (fun _ _=>rfl)) (pv 0)) (Zj Zz06 (ZP (Zm K) (pv 3) Zz9 (fun _ _=>rfl)) (pv 1))) (pv 4)))))),?_⟩;refine⟨_,rfl,_,rfl,r,_,rfl,hR,fun p1 hp1=>?_⟩;rw[ZS6];have s1:=Zz5 (o:=.lst (IL l)) hp1
  refine⟨_,rfl,_,rfl,p,_,rfl,s1.seq hP,fun p2 hp2=>?_⟩;rw[ZS6];have s2:=Zz5 (o:=.lst (IL q')) hp2
  have s12:=s1.trans s2;have h1:=s2 _ _ (Zz1 (H:=H) (a:=p1) (o:=.lst (IL l)))
  have h2:(upd (upd H p1 (.lst (IL l))) p2 (.lst (IL q'))) p2=some (.lst (IL q')):=Zz1;generalize upd (upd H p1 (.lst (IL l))) p2 (.lst (IL q'))=H2 at *;refine⟨p1,p2,rfl,⟨_,_,SqL.of h1,SqL.of h2⟩,Zw11 (K:=K) (a:=p1) (b:=p2) (xs:=IL l) (ys:=IL q') (fun i zs H3=>Same H2 H3/\i<=l.length/\zs=IL ((tkn y q' last (x :: l)).take i)) ⟨Same.refl _,Yj _,rfl⟩ (by rw[Zz4,Zz4];exact hlq) (Zn (by rw[Zz4];omega))
   (fun i zs H3 hi ⟨e,hi2,ez⟩=>⟨SqL.of (e _ _ h1),SqL.of (e _ _ h2),by rw[ez,Zz4,Yz];omega⟩) ?_ ?_⟩
  ·rintro i u v zs H3 pt hpt hu hv ⟨s3,hil,rfl⟩ S hSS;obtain⟨own,rfl,ho⟩:=ZW hu;obtain⟨oth,rfl,ht⟩:=ZW hv;have hil':=(Yy2.mp ho).1
   have s4:=Zz5 (o:=.tup [.int own,.int oth]) hpt;refine⟨pt,_,rfl,SqT.of Zz1,rfl,_,_,rfl,_,_,rfl,rfl,?_⟩;have s34:=s12.trans (s3.trans s4)
   have a1:=hy y Ye;have a2:=hx own (Yg _ (Yy6 ho))
   have a3:=hx x Ye;have a4:=hy oth (Yg _ (Yy6 ht))
   refine⟨_,rfl,p,_,0,.int y,rfl,rfl,s34.seq hP,ZO (n:=0) rfl rfl,_,rfl,_,_,rfl,rfl,⟨a1,a2⟩,_,rfl,r,_,0,.int x,rfl,rfl,s34.seq hR,ZO (n:=0) rfl rfl,_,rfl,_,_,rfl,rfl,⟨a3,a4⟩,_,_,rfl,rfl,_,rfl,_,_,rfl,rfl,⟨l0,l1⟩,?_⟩;refine hSS _ _ ⟨s3.trans s4,hil',?_⟩;have e:(tkn y q' last (x :: l))[i]?=some ((y * own - x * oth).fdiv last):=by show(List.zipWith _ l q')[i]?=_;rw[Y0N,ho,ht];rfl
   rw[YO,e];exact(ZR _ _).symm
  ·rintro zs H3 ⟨s3,_,rfl⟩ c hc;rw[Zz4,Y0g (by rw[Zz28 (by rw[YA,hlq])];omega)];exact q c _ (s12.trans (s3.trans (Zz5 hc))) ((s12.trans s3).free hc) Zz1
def spZ2(K:PySem.W.Frag):Sp:=fun vs H Q _=>∃(a:Addr) (ys:List V) (R:List (List Int)),vs=[.ref a]/\SqL K H a ys/\Bears (Zz97 H) ys R/\(∀ l∈R,0<l.length) /\
 (∀ H':Hp,Same H H'->(∀ i,i<R.length->fnL R i 0=0)->Q .non H')/\(∀(t:Nat) (H':Hp),Same H H'->t<R.length->fnL R t 0≠0->Q (.int t) H')
theorem scZ2:FnScope ["rows","at","row"] ["rows"] (Zz7 sZ2):=⟨rfl,rfl,rfl,by decide +kernel,rfl,by decide +kernel,by decide +kernel⟩
theorem okZ2 (T:Txt K mg t):FnOk P w K mg base CX0 1 t.aZ2 t.dZ2 ["rows"] (spZ2 K):=by
 refine T.fZ2.ok scZ2 (fun vs H Q E h=>?_) (fun cdv A outer s H vs Q E hr h=>?_)
 ·obtain⟨a,ys,R,rfl,_⟩:=h;rfl
 ·obtain⟨a,ys,R,rfl,hS,hB,hp,q0,q1⟩:=h;refine⟨_,(Zz2 (Ze1 YT rfl (Zw1 K rfl T.n_enumerate (Zz0 (pv 0) Zz3)) (Zz71 (n:=2) K rfl (Zp (Ze (i:=1) scZ2.nd rfl (Or.inl rfl)) (Zp (Ze (i:=2) scZ2.nd rfl (Or.inl rfl)) Zz61)))
   (Zz6 (Zj1 (Zg ZZ5 (ZP (Zm K) (pv 2) Zz9 (fun _ _=>rfl)) Zz9 (Zr _))
   (Zz6 (Zo (pv 1)))
   Zs)))
   (Zz6 (Zo Zq7))),?_⟩
  have hyl:=hB.1;refine⟨_,rfl,a,rfl,⟨_,hS⟩,ZZ3 (K:=K) (a:=a) (xs:=ys) (fun i σ H2=>∃ v1 v2,σ=[some (.ref a),v1,v2]/\Same H H2/\∀ j,j<i->fnL R j 0=0) ⟨none,none,rfl,Same.refl _,fun j h=>absurd h (Yy08 _)⟩ (fun i σ H2 _ ⟨_,_,_,e,_⟩=>e.seq hS) ?_ ?_⟩
  ·rintro i v σ H2 pt hpt hi ⟨v1,v2,rfl,s2,hz⟩;obtain⟨l,hl,r,rfl,hr⟩:=hB.at hi;have hlp:=hp l (Yy6 hl)
   obtain⟨x,l',rfl⟩:∃ x l',l=x :: l':=by
    cases l with
    | nil=>exact absurd hlp (Y0z 0)
    | cons x l'=>exact⟨x,l',rfl⟩
   have e0:fnL R i 0=x:=Zs2 hl rfl;have s3:=s2.trans (Zz5 (o:=.tup [.int i,.ref r]) hpt)
   refine⟨pt,_,rfl,SqT.of Zz1,rfl,_,_,rfl,_,_,rfl,rfl,?_⟩;generalize upd H2 pt (.tup [.int i,.ref r])=H3 at *;refine⟨_,rfl,r,_,0,.int x,rfl,rfl,SqL.of (s3 _ _ hr),ZO (n:=0) rfl rfl,rfl,_,rfl,?_⟩;rw[ZB];refine itn2 (fun e=>?_) (fun e=>?_)
   ·refine⟨_,_,rfl,s3,fun j hj=>?_⟩;by_cases c:j=i
    ·rw[c,e0,e]
    ·exact hz j (by omega)
   ·exact⟨_,rfl,q1 i H3 s3 (by have:=(Yy2.mp hl).1;exact this) (by rw[e0];exact e)⟩
  ·rintro σ H2 ⟨v1,v2,rfl,s2,hz⟩;exact q0 H2 s2 fun i hi=>hz i (by omega)
def spZ3(K:PySem.W.Frag):Sp:=fun vs H Q _=>∃(a:Addr) (kd:Bool) (xs:List V) (L:List (List Int)),vs=[.ref a]/\SqK kd K H a xs/\Bears (RowV K H) xs L/\L.length<=16/\(∀ i j,i<L.length->j<L.length->(fnL L i j).natAbs<=2 ^ 400) /\
 ((∀ l∈L,l.length=L.length)->∀ H':Hp,Same H H'->Q (.int (det L.length (fnL L))) H')/\(¬ (∀ l∈L,l.length=L.length)->∀ H':Hp,Same H H'->False)
theorem Zd13{s rest:TS}{D:Ends}{σ:L2.St}{H:Hp}(P:L2.St->Hp->Prop)(h1:∀ σ' H',P σ' H'->rest D σ' H')(h2:∀ K:L2.St->Hp->Prop,(∀ σ' H',P σ' H'->K σ' H')->s { D with nx:=K } σ H):tSeq s rest D σ H:=h2 _ h1
theorem scZ3:FnScope ["table","rows","sign","last","at","pivot"] ["table"] (Zz7 sZ3):=⟨rfl,rfl,rfl,by decide +kernel,rfl,by decide +kernel,by decide +kernel⟩
theorem okZ3 (T:Txt K mg t):FnOk P w K mg base CX0 2 t.aZ3 t.dZ3 ["table"] (spZ3 K):=by
 refine T.fZ3.ok scZ3 (fun vs H Q E h=>?_) (fun cdv A outer s H vs Q E hr h=>?_)
 ·obtain⟨a,kd,xs,L,rfl,_⟩:=h;rfl
 ·obtain⟨a,kd,xs,L,rfl,hS,hB,hL16,hA0,q,qe⟩:=h;refine⟨_,(Zz2 (ZA (Za (okZ0 T) (hr.mono (by decide)) rfl T.mZ0 T.fZ0.kp T.bZ0 .nil Zq (Zz0 (pv 0) Zz3)))
   (Zz2 (Zn7 (i:=1) rfl scZ3.nd rfl rfl (sc0:=Zz7 sZ3) (N0:=["table","rows","sign","last","at","pivot"]) (N':=["row"]) (o:=1) (fr:=[]) ⟨rfl,by decide +kernel,by decide +kernel,by decide +kernel,rfl,by decide +kernel⟩ (ZN1 K (pv 0)) (ZH (by decide)) (fun _ _ _ _=>(Ze (i:=0) (show List.Nodup (["row"]:List Str) by decide +kernel) rfl (Or.inl rfl))) (fun _ _ _ _=>ZZ) (fun _ _ _ _=>(Zt (ZS K) (by rfl) T.n_list Boot.«list» (Zz0 (pv 0) Zz3))))
   (Zz2 (Zf (i:=2) scZ3.nd rfl (Or.inl rfl) Zz9)
   (Zz2 (Zf (i:=3) scZ3.nd rfl (Or.inr rfl) Zz9)
   (Zz2 (ZT5 YT (Zg Ze11 (Zl (Zk K) (by rfl) T.n_len Boot.«len» (Zz0 (pv 1) Zz3)) Zz9 (Zr _))
   (Zz2 (Zf (i:=4) scZ3.nd rfl (Or.inl rfl) (Za (okZ2 T) (hr.mono (by decide)) rfl T.mZ2 T.fZ2.kp T.bZ2 .nil Zq (Zz0 (pv 1) Zz3)))
   (Zz2 (Zj1 (Zg Zc11 (pv 4) Zq7 (Zr _))
   (Zz6 (Zo Zz9))
   Zs)
   (Zz2 (Zj1 (Zg Zd5 (Zj ZC (pv 4) Zz9) Zz9 (Zr _))
   (Zz6 (Zf (i:=2) scZ3.nd rfl (Or.inl rfl) (Zh12 Za7 (pv 2))))
   Zs)
   (Zz2 (Zf (i:=5) scZ3.nd rfl (Or.inr rfl) (Zf1 K YB PySem.F.slot_list_pop PySem.F.type_list_pop Zv9 (pv 1) (Zz0 (pv 4) Zz3)))
   (Zz2 (Zn7 (i:=1) rfl scZ3.nd rfl rfl (sc0:=Zz7 sZ3) (N0:=["table","rows","sign","last","at","pivot"]) (N':=["row","pivot","last"]) (o:=1) (fr:=[5,3]) ⟨rfl,by decide +kernel,by decide +kernel,by decide +kernel,rfl,by decide +kernel⟩ (ZU K (pv 1)) (ZH (by decide)) (fun _ _ _ _=>(Ze (i:=0) (show List.Nodup (["row","pivot","last"]:List Str) by decide +kernel) rfl (Or.inl rfl))) (fun _ _ _ _=>ZZ) (fun _ _ _ _=>(Za (okZ1 T) (hr.mono (by decide)) rfl T.mZ1 T.fZ1.kp T.bZ1 .nil Zq (Zz0 (pv 0) (Zz0 (pv 1) (Zz0 (pv 2) Zz3))))))
   (Zz6 (Zf (i:=3) scZ3.nd rfl (Or.inr rfl) (ZP (Zm K) (pv 5) Zz9 (fun _ _=>rfl))))))))))
   (Zz6 (Zo (Zj Zz06 (pv 2) (pv 3))))))))),?_⟩
  have hxl:=hB.1;refine⟨_,rfl,a,kd,xs,L,rfl,hS,hB,fun hsq=>?_,fun h=>qe h H (Same.refl H)⟩;have q:=q hsq
  obtain⟨n,hn⟩:∃ n,n=L.length:=⟨_,rfl⟩;rw[<- hn]at q hsq hA0 hL16;refine⟨_,rfl,a,rfl,ZH9 (K:=K) (k:=kd) (a:=a) (xs:=xs) (fun i zs H2=>Same H H2/\i<=xs.length/\Bears (Zz97 H2) zs (L.take i)) ⟨Same.refl _,Yj _,⟨rfl,fun i l e=>by simp at e⟩⟩ (Zn (by omega)) (fun i zs H2 hi ⟨e,hi2,ez⟩=>⟨hS.same e,by rw[ez.1,Yz];omega⟩) ?_ ?_⟩
  ·rintro i v zs H2 hi ⟨s2,hil,hZ⟩ S hSS;obtain⟨l,hl,r,k,rfl,hr⟩:=hB.at hi;have hil':=(Yy2.mp hi).1
   refine nm ?_;refine⟨_,rfl,r,_,rfl,(hr.same s2).or,fun c hc=>hSS _ _ ⟨s2.trans (Zz5 hc),hil',?_⟩⟩;rw[YO,hl];refine(hZ.imp fun _ _ ⟨r',e,h⟩=>⟨r',e,Zz5 hc _ _ h⟩).snoc ⟨c,rfl,Zz1⟩
  rintro zs H2 ⟨s2,_,hZ⟩ rA hrA;rw[hxl,YG]at hZ;have s3:=s2.trans (Zz5 (o:=.lst zs) hrA)
  refine⟨fun m σ H4=>∃(A:Mx) (k:Nat) (rA:Addr) (ys:List V) (R:List (List Int)) (sgn last:Int) (v4 v5:Option V),σ=[some (.ref a),some (.ref rA),some (.int sgn),some (.int last),v4,v5]/\Same H H4/\H rA=none/\H4 rA=some (.lst ys)/\Bears (LiV rA H4) ys R/\R.length=m/\(∀ l∈R,l.length=m)/\k+m=n/\Bar A k m (fnL R) last/\det n (fnL L)=sgn * det n A/\(∀ i j,i<n->j<n->(A i j).natAbs<=2 ^ 400)/\(m=0->last=det n A)/\(sgn=1\/sgn=-1)/\last.natAbs<2 ^ 9000,⟨n,fnL L,0,rA,zs,L,1,1,none,none,rfl,s3,s2.free hrA,Zz1,?_,hn.symm,hsq,by omega,ZX7 _ _,by omega,hA0,fun e=>by rw[e];rfl,.inl rfl,Nat.one_lt_two_pow (by decide)⟩,?_⟩
  ·exact hZ.imp fun v l ⟨r,e,h⟩=>⟨r,e,Zz5 hrA _ _ h,Zb h hrA⟩
  rintro m σ H4 ⟨A,k,rA,ys,R,sgn,last,v4,v5,rfl,s4,hr0,hr4,hR,hRm,hRl,hkm,hBar,hdet,hAb,hfin,hsg,hlb⟩;have hyl:=hR.1
  refine⟨_,rfl,rA,ys,rfl,.inl (SqL.of hr4),_,_,rfl,rfl,_,rfl,?_⟩;refine itd2 (fun hpos=>?_) (fun hpos=>?_)
  ·obtain⟨M,rfl⟩:∃ M,m=M+1:=⟨m - 1,by omega⟩;refine⟨_,fun σ' H' h=>⟨M,Y0s M,h⟩,?_⟩;have hsm:∀ l∈R,∀ z∈l,z.natAbs<2 ^ 9000:=fun l hl z hz=>by
    obtain⟨i,hi⟩:=YZ hl;obtain⟨j,hj⟩:=YZ hz;have h1:=(Yy2.mp hi).1
    have h2:=(Yy2.mp hj).1;have h3:=hRl l hl
    have:=ZY7 hBar hkm hL16 hAb (i:=i) (j:=j) (by omega) (by omega)
    rw[Zs2 hi hj]at this;exact this
   refine⟨_,rfl,rA,ys,R,rfl,SqL.of hr4,hR.imp fun _ _ h=>h.list,fun l hl=>by rw[hRl l hl];omega,fun H5 s5 h0=>?_,fun t H5 s5 ht hne=>?_⟩
   ·refine⟨_,rfl,rfl,_,rfl,?_⟩;refine itd (c:=V.non=V.non) rfl ?_;have z:det n A=0:=by
     have:=Zm10 hBar fun i hi=>h0 i (by omega)
     rw[show k+M+1=n by omega]at this;exact this
    rw[hdet,z,Y0y]at q;exact q H5 (s4.trans s5)
   refine⟨_,rfl,rfl,_,rfl,?_⟩;refine itdn (c:=V.int (t:Int)=V.non) (fun z=>nomatch z) ?_;refine nm ?_;dsimp only;refine Zd13 (fun σ H6=>∃ sgn':Int,H6=H5/\σ=[some (.ref a),some (.ref rA),some (.int sgn'),some (.int last),some (.int t),v5]/\sgn'=sgn * sg t) ?_ ?_
   ·rintro σ H6 ⟨sgn',rfl,rfl,hsgn⟩;have hr6:=s5 _ _ hr4
    have hR6:=hR.imp fun _ _ h=>h.same s5;obtain⟨l,hl⟩:∃ l,R[t]?=some l:=⟨_,Yy0 ht⟩;have hll:=hRl l (Yy6 hl)
    obtain⟨y,p',rfl⟩:∃ y p',l=y :: p':=by
     cases l with
     | nil=>cases hll
     | cons y p'=>exact⟨y,p',rfl⟩
    have hpl:p'.length=M:=by rw[YA]at hll;omega
    obtain⟨v,hv,pA,rfl,hpA,hpn⟩:=hR6.2 t _ hl;have hy0:y≠0:=by rw[Zs2 hl rfl]at hne;exact hne
    refine⟨_,rfl,.inl ⟨rfl,_,SqL.of hr6⟩,_,rfl,rA,ys,(t:Int),t,.ref pA,rfl,rfl,hr6,by omega,by omega,by rw[ZA12 (by omega) (by omega),Yw],hv,?_⟩;have hpA7:(upd H6 rA (.lst (ys.eraseIdx t))) pA=some (.lst (IL (y :: p'))):=by rw[Zc hpn];exact hpA
    have s7:Same H (upd H6 rA (.lst (ys.eraseIdx t))):=Zv hr0 (s4.trans s5);have hR7:Bears (LiV rA (upd H6 rA (.lst (ys.eraseIdx t)))) (ys.eraseIdx t) (R.eraseIdx t):=(hR6.erase t).imp fun _ _ h=>h.mut
    have hr7:(upd H6 rA (.lst (ys.eraseIdx t))) rA=some (.lst (ys.eraseIdx t)):=Zz1;generalize upd H6 rA (.lst (ys.eraseIdx t))=H7 at *;have eRl:(R.eraseIdx t).length=M:=by rw[Y0S,if_pos ht];omega
    have hRl7:∀ l∈R.eraseIdx t,l.length=M+1:=fun l h=>hRl l (Yy31 h);have hy7:=hR7.1
    refine⟨_,rfl,rA,rfl,⟨_,SqL.of hr7⟩,ZD1 (K:=K) (a:=rA) (xs:=ys.eraseIdx t) (fun i zs H8=>Same H7 H8/\i<=(ys.eraseIdx t).length/\Bears (Zz97 H8) zs (((R.eraseIdx t).take i).map (tkn y p' last))) ⟨Same.refl _,Yj _,⟨rfl,fun i l e=>by simp at e⟩⟩ (Zn (by omega)) (fun i zs H8 hi ⟨e,hi2,ez⟩=>⟨SqL.of (e _ _ hr7),by rw[ez.1,Yb,Yz];omega⟩) ?_ ?_⟩
    ·rintro i v zs H8 hi ⟨s8,hil,hZ8⟩ S hSS;obtain⟨l,hli,r,rfl,hr,_⟩:=hR7.at hi;have hil':=(Yy2.mp hi).1
     have hl2:=hRl7 l (Yy6 hli);obtain⟨x,l',rfl⟩:∃ x l',l=x :: l':=by
      cases l with
      | nil=>cases hl2
      | cons x l'=>exact⟨x,l',rfl⟩
     have hl':l'.length=M:=by rw[YA]at hl2;omega
     refine nm ?_;refine⟨_,rfl,_,rfl,_,rfl,r,pA,x,y,last,l',p',rfl,SqL.of (s8 _ _ hr),SqL.of (s8 _ _ hpA7),by omega,by omega,hBar.1,hlb,hsm _ (Yy31 (Yy6 hli)),hsm _ (Yy6 hl),fun c H9 s9 hc0 hc=>hSS _ _ ⟨s8.trans s9,hil',?_⟩⟩;rw[YO,hli,YE];exact(hZ8.imp fun _ _ ⟨r',e,h⟩=>⟨r',e,s9 _ _ h⟩).snoc ⟨c,rfl,hc⟩
    rintro zs H8 ⟨s8,_,hZ8⟩ cA hcA;rw[hy7,YG]at hZ8;have s9:=Zz5 (o:=.lst zs) hcA
    refine⟨_,rfl,pA,_,0,.int y,rfl,rfl,SqL.of (s9 _ _ (s8 _ _ hpA7)),ZO (n:=0) rfl rfl,?_⟩;have hb1:Bar (fun i=>A (rotN k t i)) k (M+1) (fnL ((y :: p') :: R.eraseIdx t)) last:=by rw[ZP10 hl];exact Zz912 hBar (by omega)
    have hb2:Bar (fun i=>A (rotN k t i)) (k+1) M (fnL ((R.eraseIdx t).map (tkn y p' last))) y:=Zl10 hb1 hy0 fun i j hi hj=>ZB10 hpl eRl hRl7 hi hj;have hdr:=ZJ6 (n:=n) (k:=k) (t:=t) (A:=A) (by omega)
    refine⟨fun i=>A (rotN k t i),k+1,cA,zs,(R.eraseIdx t).map (tkn y p' last),sgn',y,_,_,rfl,s7.trans (s8.trans s9),(s7.trans s8).free hcA,Zz1,?_,by rw[Yb];exact eRl,fun l h=>?_,by omega,hb2,?_,fun i j hi hj=>hAb _ _ ?_ hj,fun e0=>?_,?_,hsm _ (Yy6 hl) y Ye⟩
    ·exact hZ8.imp fun v l ⟨r,e,h⟩=>⟨r,e,s9 _ _ h,Zb h hcA⟩
    ·obtain⟨l0,h0,rfl⟩:=Yr.mp h;rw[Zz28 (by rw[hRl7 l0 h0,hpl]),hpl]
    ·rw[hdr,hdet,hsgn,Y0m,<- Y0m (sg t),ZE13,Y0E]
    ·unfold rotN;split
     ·omega
     ·split
      ·omega
      ·split <;> omega
    ·subst e0
     have:=Zb12 hb1
     rw[show k+1=n by omega]at this;exact this
    ·rw[hsgn];have hst:sg t=1\/sg t=-1:=by
      unfold sg;split
      ·exact .inl rfl
      ·exact .inr rfl
     rcases hsg with e | e <;> rcases hst with f | f <;> rw[e,f]
     ·exact .inl rfl
     ·exact .inr rfl
     ·exact .inr rfl
     ·exact .inl rfl
   ·intro Kn hK;refine⟨_,rfl,_,_,rfl,rfl,(by show(0:Int)<2;decide),rfl,_,rfl,?_⟩;rw[ZB];refine itd2 (fun h1=>?_) (fun h1=>?_)
    ·refine⟨_,rfl,_,rfl,hK _ _ ⟨-sgn,rfl,rfl,?_⟩⟩;have e:sg t=-1:=by unfold sg;rw[if_neg (by omega)]
     rw[e];omega
    ·refine hK _ _ ⟨sgn,rfl,rfl,?_⟩;have e:sg t=1:=by unfold sg;rw[if_pos (by omega)]
     rw[e];omega
  ·have hm0:m=0:=by omega
   refine⟨_,rfl,_,rfl,_,_,rfl,rfl,⟨?_,hlb⟩,?_⟩
   ·rcases hsg with e | e <;> rw[e] <;> exact Nat.one_lt_two_pow (by decide)
   ·rw[hfin hm0]at *;rw[hdet]at q;exact q H4 s4
def spZ4(K:PySem.W.Frag):Sp:=fun vs H Q _=>∃(a:Addr) (l:List Int) (i:Nat),vs=[.ref a,.int i]/\SqL K H a (IL l)/\l.length<=1000/\∀(r:Addr) (H':Hp),Same H H'->H r=none->H' r=some (.lst (IL (cutz l i)))->Q (.ref r) H'
theorem ZO9(l:List Int)(z:Int):cutz (IL l) z=IL (cutz l z):=by
 unfold cutz;show(l.map V.int).take _++(l.map V.int).drop _=(l.take _++l.drop _).map V.int
 rw[YE,List.map_take,List.map_drop]
theorem scZ4:FnScope ["row","number"] ["row","number"] (Zz7 sZ4):=⟨rfl,rfl,rfl,by decide +kernel,rfl,by decide +kernel,by decide +kernel⟩
theorem okZ4 (T:Txt K mg t):FnOk P w K mg base CX0 1 t.aZ4 t.dZ4 ["row","number"] (spZ4 K):=by
 refine T.fZ4.ok scZ4 (fun vs H Q E h=>?_) (fun cdv A outer s H vs Q E hr h=>?_)
 ·obtain⟨a,l,i,rfl,_⟩:=h;rfl
 ·obtain⟨a,l,i,rfl,hA,hl,q⟩:=h;refine⟨_,(Zz6 (Zo (Zj Zg11 (Zt (ZS K) (by rfl) T.n_list Boot.«list» (Zz0 (Zb2 (Zz62 K) (pv 0) Zm3 (Zl3 (pv 1))) Zz3)) (Zt (ZS K) (by rfl) T.n_list Boot.«list» (Zz0 (Zb2 (Zz62 K) (pv 0) (Zl3 (Zj Zz01 (pv 1) Zz9)) Zm3) Zz3))))),?_⟩;refine⟨_,rfl,_,rfl,(i:Int),rfl,a,_,rfl,hA,fun p1 hp1=>?_⟩;have u1:=Zz5 (o:=.lst (cutV (IL l) none (some (i:Int)))) hp1
  refine⟨p1,_,rfl,.inl (SqL.of Zz1),fun p2 hp2=>?_⟩;have u2:=Zz5 (o:=.lst (cutV (IL l) none (some (i:Int)))) hp2
  refine⟨_,rfl,_,rfl,_,_,rfl,rfl,_,rfl,a,_,rfl,(u1.trans u2).seq hA,fun p3 hp3=>?_⟩;have u3:=Zz5 (o:=.lst (cutV (IL l) (some ((i:Int)+1)) none)) hp3
  refine⟨p3,_,rfl,.inl (SqL.of Zz1),fun p4 hp4=>?_⟩;have u4:=Zz5 (o:=.lst (cutV (IL l) (some ((i:Int)+1)) none)) hp4
  have c1:=ZL1 (IL l) none (some (i:Int));have c2:=ZL1 (IL l) (some ((i:Int)+1)) none
  rw[Zz4]at c1 c2;refine⟨p2,p4,_,_,rfl,rfl,(u3.trans u4) _ _ Zz1,Zz1,Zg3 (by omega),fun p5 hp5=>?_⟩;have u14:=u1.trans (u2.trans (u3.trans u4))
  refine q p5 _ (u14.trans (Zz5 hp5)) (u14.free hp5) ?_;rw[Zz1,ZZ13 (by omega),ZO9]
def spZ5(K:PySem.W.Frag):Sp:=fun vs H Q _=>∃(a:Addr) (ys:List V) (L:List (List Int)) (i:Nat),vs=[.ref a,.int i]/\SqL K H a ys/\Bears (Zz97 H) ys L/\L.length<=1000/\(∀ l∈L,l.length<=1000)/\i<L.length /\
 ∀(r:Addr) (zs:List V) (H':Hp),Same H H'->H' r=some (.lst zs)->Bears (Zz97 H') zs ((cutz L i).map fun l=>cutz l (i:Int))->Q (.ref r) H'
theorem ZN4{α:Type}{l:List α}{i j:Nat}{x:α}(hx:l[j]?=some x):cutz (l.take (j+1)) (i:Int)=cutz (l.take j) (i:Int)++(if j=i then [] else [x]):=by
 have hj:=(Yy2.mp hx).1;have e:l.take (j+1)=l.take j++[x]:=by rw[YO,hx];rfl
 have hl:(l.take j).length=j:=by rw[Yz];omega
 have short:∀ m:List α,m.length<=i->cutz m (i:Int)=m:=fun m hm=>by unfold cutz;rw[Yw,Y0g hm,Yy12 (by omega),YS]
 rw[e];by_cases c:j=i
 ·subst c;rw[if_pos rfl,YS,short (l.take j) (by omega)];unfold cutz;rw[Yw,Y2z (by omega),Yy12 (by rw[Yy8,hl];exact Yy7 _),YS,Y0g (by omega)]
 ·rw[if_neg c];by_cases d:j<i
  ·rw[short (l.take j++[x]) (by rw[Yy8,hl];exact d),short (l.take j) (by omega)]
  ·unfold cutz;rw[Yw,Y2z (by omega),List.drop_append_of_le_length (by omega),Y0f]
theorem scZ5:FnScope ["table","number"] ["table","number"] (Zz7 sZ5):=⟨rfl,rfl,rfl,by decide +kernel,rfl,by decide +kernel,by decide +kernel⟩
theorem okZ5 (T:Txt K mg t):FnOk P w K mg base CX0 2 t.aZ5 t.dZ5 ["table","number"] (spZ5 K):=by
 refine T.fZ5.ok scZ5 (fun vs H Q E h=>?_) (fun cdv A outer s H vs Q E hr h=>?_)
 ·obtain⟨a,ys,L,i,rfl,_⟩:=h;rfl
 ·obtain⟨a,ys,L,i,rfl,hA,hB,hL,hLl,hi,q⟩:=h;refine⟨_,(Zz6 (Zo (Zc5 rfl (sc0:=Zz7 sZ5) (N0:=["table","number"]) (N':=["at","row","number"]) (o:=2) (fr:=[1]) ⟨rfl,by decide +kernel,by decide +kernel,by decide +kernel,rfl,by decide +kernel⟩ (Zw1 K rfl T.n_enumerate (Zz0 (pv 0) Zz3)) (Zd2 (ZM (by decide) (ZM (by decide) Ze2))) (fun _ _ _ _=>(Zz71 (n:=2) K rfl (Zp (Ze (i:=0) (show List.Nodup (["at","row","number"]:List Str) by decide +kernel) rfl (Or.inl rfl)) (Zp (Ze (i:=1) (show List.Nodup (["at","row","number"]:List Str) by decide +kernel) rfl (Or.inl rfl)) Zz61)))) (fun _ _ _ _=>(Zz72 (Zg ZZ5 (pv 0) (pv 2) (Zr _)))) (fun _ _ _ _=>(Za (okZ4 T) (hr.mono (by decide)) rfl T.mZ4 T.fZ4.kp T.bZ4 .nil Zq (Zz0 (pv 1) (Zz0 (pv 2) Zz3))))))),?_⟩;have hyl:=hB.1
  refine⟨_,rfl,a,rfl,⟨_,hA⟩,Zr4 (K:=K) (a:=a) (xs:=ys) (fun j zs H2=>Same H H2/\j<=ys.length/\Bears (Zz97 H2) zs ((cutz (L.take j) (i:Int)).map fun l=>cutz l (i:Int))) ⟨Same.refl _,Yj _,by rw[show(cutz (L.take 0) (i:Int)).map (fun l=>cutz l (i:Int))=[] by unfold cutz;simp];exact⟨rfl,fun i l e=>by simp at e⟩⟩ (Zn (by omega)) (fun j zs H2 hj ⟨e,hj2,ez⟩=>⟨e.seq hA,by
   rw[ez.1,Yb];refine YF (Za10 _ _) ?_;rw[Yz]
   omega⟩) ?_ ?_⟩
  ·rintro j v zs H2 pt hpt hj ⟨s2,hjl,hZ⟩ S hSS;obtain⟨l,hl,r,rfl,hr⟩:=hB.at hj;have hjl':=(Yy2.mp hj).1
   have s3:=Zz5 (o:=.tup [.int j,.ref r]) hpt;refine⟨pt,_,rfl,SqT.of Zz1,rfl,_,_,rfl,_,_,rfl,rfl,?_⟩;have hZ3:Bears (Zz97 (upd H2 pt (.tup [.int j,.ref r]))) zs ((cutz (L.take j) (i:Int)).map fun l=>cutz l (i:Int)):=hZ.imp fun _ _ ⟨r',e,h⟩=>⟨r',e,s3 _ _ h⟩
   have s23:=s2.trans s3;generalize upd H2 pt (.tup [.int j,.ref r])=H3 at *;refine⟨_,rfl,_,rfl,rfl,_,rfl,?_⟩;rw[ZB];refine itn2 (fun e=>?_) (fun e=>?_)
   ·refine hSS _ _ ⟨s23,hjl',?_⟩;rw[ZN4 hl,if_pos (by omega),YS];exact hZ3
   ·refine⟨_,rfl,_,rfl,r,l,i,rfl,SqL.of (s23 _ _ hr),hLl l (Yy6 hl),fun c H4 s4 _ hc=>hSS _ _ ⟨s23.trans s4,hjl',?_⟩⟩;rw[ZN4 hl,if_neg (by omega),YE];exact(hZ3.imp fun _ _ ⟨r',e,h⟩=>⟨r',e,s4 _ _ h⟩).snoc ⟨c,rfl,hc⟩
  ·rintro zs H2 ⟨s2,_,hZ⟩ p hp;rw[hyl,YG]at hZ;exact q p zs _ (s2.trans (Zz5 hp)) Zz1 (hZ.imp fun _ _ ⟨r',e,h⟩=>⟨r',e,Zz5 hp _ _ h⟩)
def spZ6(C:Addr):Sp:=fun vs H Q _=>∃(w:Addr) (n:Int) (ps:List (Int × Int)) (k:Int),vs=[.ref w,.int k]/\WebAt C H w n ps/\Q (.bl (decide (0<=k/\k<(ps.length:Int)))) H
theorem scZ6:FnScope ["web","number"] ["web","number"] (Zz7 sZ6):=⟨rfl,rfl,rfl,by decide +kernel,rfl,by decide +kernel,by decide +kernel⟩
theorem okZ6 (T:Txt K mg t):FnOk P w K mg base CX0 1 t.aZ6 t.dZ6 ["web","number"] (spZ6 t.A_Web):=by
 refine T.fZ6.ok scZ6 (fun vs H Q E h=>?_) (fun cdv A outer s H vs Q E hr h=>?_)
 ·obtain⟨w,n,ps,k,rfl,_⟩:=h;rfl
 ·obtain⟨w,n,ps,k,rfl,⟨dx,tl,xs,h1,h2,h3⟩,q⟩:=h;refine⟨_,(Zz6 (Zo (Zp9 Zs10 Zz16 Zz9 (pv 1) (Zl (Zk K) (by rfl) T.n_len Boot.«len» (Zz0 (ZL K (pv 0) rfl) Zz3))))),?_⟩;refine⟨_,rfl,_,_,rfl,rfl,_,rfl,?_⟩;refine ite2 (fun hc=>?_) (fun hc=>?_)
  ·refine⟨_,rfl,w,_,dx,_,_,rfl,h1,T.cl_Web,T.n_Web_ties,Zl1 _ _,tl,xs,rfl,.inl (SqL.of h2),_,_,rfl,rfl,?_⟩;have hc:=Yt hc
   show Q (.bl (decide (k<(xs.length:Int)))) H;rw[h3.1,show decide (k<(ps.length:Int))=decide (0<=k/\k<(ps.length:Int)) from by simp[hc]];exact q
  ·have hc:¬ (0<=k):=fun z=>hc (Yl z);show Q (.bl false) H
   rw[show(false:Bool)=decide (0<=k/\k<(ps.length:Int)) from by simp;omega];exact q
def spZ7(K:PySem.W.Frag):Sp:=fun vs H Q _=>∃(n:Int) (a:Addr) (kd:Bool) (xs:List V) (ps:List (Int × Int)),vs=[.int n,.ref a]/\SqK kd K H a xs/\PairsV H xs ps/\Zu n ps/\Q .non H
theorem scZ7:FnScope ["places","ties","ends","end"] ["places","ties"] (Zz7 sZ7):=⟨rfl,rfl,rfl,by decide +kernel,rfl,by decide +kernel,by decide +kernel⟩
theorem okZ7 (T:Txt K mg t):FnOk P w K mg base CX0 1 t.aZ7 t.dZ7 ["places","ties"] (spZ7 K):=by
 refine T.fZ7.ok scZ7 (fun vs H Q E h=>?_) (fun cdv A outer s H vs Q E hr h=>?_)
 ·obtain⟨n,a,kd,xs,ps,rfl,_⟩:=h;rfl
 ·obtain⟨n,a,kd,xs,ps,rfl,hS,hp,⟨g1,g2,g3,g4⟩,q⟩:=h;refine⟨_,(Zz2 (Zj1 (Zk3 (ZO3 Zs10 Zs10 Zz9 (pv 0) (Zg8 (v:=V.int 14) rfl T.g_MOST_PLACES.choose_spec ⟨_,rfl⟩)))
   (Zz6 Zd1)
   Zs)
   (Zz2 (Zj1 (Zg Ze11 (Zl (Zk K) (by rfl) T.n_len Boot.«len» (Zz0 (pv 1) Zz3)) (Zg8 (v:=V.int 30) rfl T.g_MOST_TIES.choose_spec ⟨_,rfl⟩) (Zr _))
   (Zz6 Zd1)
   Zs)
   (Zz6 (Ze1 YT rfl (ZN1 K (pv 1)) (Ze (i:=2) scZ7.nd rfl (Or.inl rfl))
   (Zz6 (Ze1 YT rfl (Zx2 K (pv 2)) (Ze (i:=3) scZ7.nd rfl (Or.inl rfl))
   (Zz6 (Zj1 (Zk3 (ZO3 Zs10 Zz16 Zz9 (pv 3) (pv 0)))
   (Zz6 Zd1)
   Zs)))))))),?_⟩
  refine⟨_,rfl,_,_,rfl,rfl,_,rfl,?_⟩;refine itd g1 ?_;refine⟨_,_,rfl,rfl,_,rfl,?_⟩;refine itn g2 ?_;refine⟨_,rfl,a,xs,rfl,hS.or,_,_,rfl,rfl,_,rfl,?_⟩;refine itdn (by rw[hp.1];omega) ?_;refine⟨_,rfl,a,rfl,Zx3 (k:=kd) (K:=K) (xs:=xs) (fun i σ H2=>∃ v v2,σ=[some (.int n),some (.ref a),v,v2]/\H2=H) ⟨none,none,rfl,rfl⟩ (fun i σ H2 _ ⟨_,_,_,e⟩=>e ▸ hS) ?_ ?_⟩
  ·rintro i x σ H2 hi ⟨v,v2,rfl,rfl⟩;obtain⟨p,hpi,tt,rfl,ht⟩:=hp.at hi;obtain⟨e1,e2,e3,e4⟩:=g4 p (Yy6 hpi);refine⟨_,rfl,tt,rfl,⟨_,SqT.of ht⟩,ZD4 (K:=K) (a:=tt) (xs:=[.int p.1,.int p.2]) (fun j σ H3=>∃ v v2,σ=[some (.int n),some (.ref a),v,v2]/\H3=H2) ⟨_,_,rfl,rfl⟩ (fun j σ H3 _ ⟨_,_,_,e⟩=>e ▸ SqT.of ht) ?_ ?_⟩
   ·rintro j y σ H3 hj ⟨v,v2,rfl,rfl⟩;have hy:∃ z:Int,y=.int z/\0<=z/\z<n:=by
     match j,hj with
     | 0,hj=>exact⟨p.1,(Yc hj).symm,e1,e2⟩
     | 1,hj=>exact⟨p.2,(Yc hj).symm,e3,e4⟩
    obtain⟨z,rfl,z1,z2⟩:=hy;refine⟨_,rfl,_,_,rfl,rfl,_,rfl,?_⟩;refine itd z1 ?_;refine⟨_,rfl,_,_,rfl,rfl,_,rfl,?_⟩;refine itn z2 ?_;exact⟨_,_,rfl,rfl⟩
   ·rintro σ H3 ⟨v,v2,rfl,rfl⟩;exact⟨_,_,rfl,rfl⟩
  ·rintro σ H2 ⟨v,v2,rfl,rfl⟩;exact q
def Zz95(K:PySem.W.Frag)(C:Addr):Sp:=fun vs H Q _=>∃(w dx:Addr) (n:Int) (a:Addr) (kd:Bool) (xs:List V) (ps:List (Int × Int)),vs=[.ref w,.int n,.ref a]/\H w=some (.ins C dx [])/\(∀ o,SqK kd K (upd H w o) a xs)/\PairsV H xs ps/\Zu n ps /\
 ∀ H':Hp,WebAt C H' w n ps->(∀ b o,H b=some o->b≠w->H' b=some o)->Q .non H'
theorem scZ8:FnScope ["self","places","ties"] ["self","places","ties"] (Zz7 sZ8):=⟨rfl,rfl,rfl,by decide +kernel,rfl,by decide +kernel,by decide +kernel⟩
theorem okZ8 (T:Txt K mg t):FnOk P w K mg base CX0 2 t.aZ8 t.dZ8 ["self","places","ties"] (Zz95 K t.A_Web):=by
 refine T.fZ8.ok scZ8 (fun vs H Q E h=>?_) (fun cdv A outer s H vs Q E hr h=>?_)
 ·obtain⟨w,dx,n,a,kd,xs,ps,rfl,_⟩:=h;rfl
 ·obtain⟨w,dx,n,a,kd,xs,ps,rfl,hw,hS,hp,g,q⟩:=h;have eH:upd H w (.ins t.A_Web dx [])=H:=by
   funext b
   by_cases hb:b=w
   ·subst hb;rw[Zz1,hw]
   ·rw[Zc hb]
  have hS0:SqK kd K H a xs:=by have z:=hS (.ins t.A_Web dx []);rw[eH]at z;exact z
  refine⟨_,(Zz2 (ZA (Za (okZ7 T) (hr.mono (by decide)) rfl T.mZ7 T.fZ7.kp T.bZ7 .nil Zq (Zz0 (pv 1) (Zz0 (pv 2) Zz3))))
   (Zz2 (Zz111 (pv 0) (pv 1) rfl)
   (Zz6 (Zz111 (pv 0) (Zc5 rfl (sc0:=Zz7 sZ8) (N0:=["self","places","ties"]) (N':=["ends"]) (o:=1) (fr:=[]) ⟨rfl,by decide +kernel,by decide +kernel,by decide +kernel,rfl,by decide +kernel⟩ (ZN1 K (pv 2)) (ZH (by decide)) (fun _ _ _ _=>(Ze (i:=0) (show List.Nodup (["ends"]:List Str) by decide +kernel) rfl (Or.inl rfl))) (fun _ _ _ _=>ZZ) (fun _ _ _ _=>(ZN (Zz0 (ZP (ZF K) (pv 0) Zz9 (fun _ _=>rfl)) (Zz0 (ZP (ZF K) (pv 0) Zz9 (fun _ _=>rfl)) Zz3))))) rfl)))),?_⟩
  refine⟨_,rfl,_,rfl,n,a,kd,xs,ps,rfl,hS0,hp,g,?_⟩;refine⟨_,rfl,_,rfl,w,_,dx,[],rfl,hw,T.cl_Web,T.n_Web_places,(by show 0<1000;decide),?_⟩;have hp1:PairsV (upd H w (.ins t.A_Web dx (putF "places" (.int n) []))) xs ps:=⟨hp.1,fun i p e=>by obtain⟨v,e1,tt,e2,e3⟩:=hp.2 i p e;exact⟨v,e1,tt,e2,by rw[Zc (Zr3 e3 hw (fun z=>nomatch z))];exact e3⟩⟩
  have sx:xs.length<sizeLine:=Zn (by rw[hp.1];have:=g.2.2.1;omega);refine⟨_,rfl,a,rfl,ZH9 (k:=kd) (K:=K) (xs:=xs) (fun i ys H2=>i<=xs.length/\ys.length=i/\Same (upd H w (.ins t.A_Web dx (putF "places" (.int n) []))) H2/\PairsV H2 ys (ps.take i)) ⟨Yj _,rfl,Same.refl _,PairsV.nil⟩ sx
   (fun i ys H2 _ ⟨_,hl,s2,_⟩=>⟨(hS _).same s2,Nat.le_of_eq hl⟩) ?_ ?_⟩
  ·rintro i x ys H2 hi ⟨h1,hl,s2,hy⟩ S hSS;obtain⟨p,hpi,tt,rfl,ht⟩:=hp1.at hi;have ht2:=s2 _ _ ht
   refine nmY ?_;refine⟨_,rfl,tt,_,0,.int p.1,rfl,rfl,SqT.of ht2,rfl,_,rfl,tt,_,1,.int p.2,rfl,rfl,SqT.of ht2,rfl,(by show 2<=sizeLine;decide),fun q hq=>?_⟩;have hil:i<xs.length:=(Yy2.mp hi).1
   refine hSS _ _ ⟨hil,by rw[Yy8,hl];rfl,ZT s2 hq,?_⟩;rw[YO,hpi];exact(hy.same (Zz5 hq)).snoc ⟨q,rfl,Zz1⟩
  ·rintro ys H2 ⟨_,hl,s2,hy⟩ tl htl;have hw2:=s2 w _ Zz1
   have nwt:w≠tl:=Zb hw2 htl;refine⟨_,rfl,w,_,dx,_,rfl,(by rw[Zc nwt];exact hw2),T.cl_Web,T.n_Web_ties,(by show 1<1000;decide),?_⟩;refine q _ ⟨dx,tl,ys,Zz1,by rw[Zc (Yy03 nwt),Zz1],?_⟩ fun b ob e hb=>?_
   ·have e1:ps.take xs.length=ps:=Y0g (by rw[hp.1];exact Yy7 _);rw[e1]at hy;refine⟨hy.1,fun i p e=>?_⟩;obtain⟨v,e2,tt,e3,e4⟩:=hy.2 i p e;exact⟨v,e2,tt,e3,by rw[Zc (Zr3 e4 hw2 (fun z=>nomatch z)),Zc (Zb e4 htl)];exact e4⟩
   ·have e2:=s2 b ob (by rw[Zc hb];exact e);rw[Zc hb,Zc (Zb e2 htl)];exact e2
def spZ9(K:PySem.W.Frag)(C:Addr):Sp:=fun vs H Q _=>∃(w a:Addr) (n:Int) (ps:List (Int × Int)) (kd:Bool) (ws:List Int),vs=[.ref w,.ref a]/\WebAt C H w n ps/\SqK kd K H a (IL ws) /\
 (ws.length=ps.length->Q .non H)/\(ws.length≠ps.length->False)
theorem scZ9:FnScope ["web","numbers"] ["web","numbers"] (Zz7 sZ9):=⟨rfl,rfl,rfl,by decide +kernel,rfl,by decide +kernel,by decide +kernel⟩
theorem okZ9 (T:Txt K mg t):FnOk P w K mg base CX0 1 t.aZ9 t.dZ9 ["web","numbers"] (spZ9 K t.A_Web):=by
 refine T.fZ9.ok scZ9 (fun vs H Q E h=>?_) (fun cdv A outer s H vs Q E hr h=>?_)
 ·obtain⟨w,a,n,ps,kd,ws,rfl,_⟩:=h;rfl
 ·obtain⟨w,a,n,ps,kd,ws,rfl,⟨dx,tl,xs,h1,h2,h3⟩,hS,q,qe⟩:=h;refine⟨_,(Zz6 (Zj1 (Zg ZZ5 (Zl (Zk K) (by rfl) T.n_len Boot.«len» (Zz0 (pv 1) Zz3)) (Zl (Zk K) (by rfl) T.n_len Boot.«len» (Zz0 (ZL K (pv 0) rfl) Zz3)) (Zr _))
   (Zz6 Zd1)
   Zs)),?_⟩
  have hl:=h3.1;refine⟨_,rfl,a,_,rfl,hS.or,_,rfl,w,_,dx,_,_,rfl,h1,T.cl_Web,T.n_Web_ties,Zl1 _ _,tl,xs,rfl,.inl (SqL.of h2),rfl,_,rfl,?_⟩;rw[ZB,Zz4];refine itn2 (fun hc=>?_) (fun hc=>?_)
  ·exact q (by omega)
  ·exact qe (by omega)
def spZa(K:PySem.W.Frag)(C:Addr):Sp:=fun vs H Q _=>∃(w:Addr) (n:Int) (ps:List (Int × Int)),vs=[.ref w]/\WebAt C H w n ps/\ps.length<=1000 /\
 ∀(r:Addr) (H':Hp),Same H H'->H r=none->H' r=some (.tup (IL (rgL ps.length)))->Q (.ref r) H'
theorem scZa:FnScope ["web"] ["web"] (Zz7 sZa):=⟨rfl,rfl,rfl,by decide +kernel,rfl,by decide +kernel,by decide +kernel⟩
theorem okZa (T:Txt K mg t):FnOk P w K mg base CX0 1 t.aZa t.dZa ["web"] (spZa K t.A_Web):=by
 refine T.fZa.ok scZa (fun vs H Q E h=>?_) (fun cdv A outer s H vs Q E hr h=>?_)
 ·obtain⟨w,n,ps,rfl,_⟩:=h;rfl
 ·obtain⟨w,n,ps,rfl,⟨dx,tl,xs,h1,h2,h3⟩,hl,q⟩:=h;refine⟨_,(Zz6 (Zo (Zt (Zz63 rfl) (by rfl) T.n_tuple Boot.«tuple» (Zz0 (Zt ZX4 (by rfl) T.n_range Boot.«range» (Zz0 (Zl (Zk K) (by rfl) T.n_len Boot.«len» (Zz0 (ZL K (pv 0) rfl) Zz3)) Zz3)) Zz3)))),?_⟩;have hx:=h3.1
  refine⟨_,rfl,w,_,dx,_,_,rfl,h1,T.cl_Web,T.n_Web_ties,Zl1 _ _,tl,xs,rfl,.inl (SqL.of h2),_,rfl,fun r hr=>⟨r,0,_,rfl,Zz1,⟨by decide,by decide,by omega,by omega⟩,by omega,fun l hl=>?_⟩⟩;refine q l _ (ZT (Zz5 hr) hl) ((Zz5 hr).free hl) ?_;rw[Zz1,hx,Zz89]
def spZb(K:PySem.W.Frag):Sp:=fun vs H Q _=>∃(a:Addr) (kd:Bool) (ns:List Int) (z:Int),vs=[.ref a,.int z]/\SqK kd K H a (IL ns)/\ns.length<=1000 /\
 ∀(r:Addr) (H':Hp),Same H H'->H r=none->H' r=some (.tup (IL (wo ns z)))->Q (.ref r) H'
theorem scZb:FnScope ["ties","left_out"] ["ties","left_out"] (Zz7 sZb):=⟨rfl,rfl,rfl,by decide +kernel,rfl,by decide +kernel,by decide +kernel⟩
theorem okZb (T:Txt K mg t):FnOk P w K mg base CX0 1 t.aZb t.dZb ["ties","left_out"] (spZb K):=by
 refine T.fZb.ok scZb (fun vs H Q E h=>?_) (fun cdv A outer s H vs Q E hr h=>?_)
 ·obtain⟨a,kd,ns,z,rfl,_⟩:=h;rfl
 ·obtain⟨a,kd,ns,z,rfl,hS,hn,q⟩:=h;refine⟨_,(Zz6 (Zo (Zt (Zs1 K) (by rfl) T.n_tuple Boot.«tuple» (Zz0 (Zc5 rfl (sc0:=Zz7 sZb) (N0:=["ties","left_out"]) (N':=["tie","left_out"]) (o:=1) (fr:=[1]) ⟨rfl,by decide +kernel,by decide +kernel,by decide +kernel,rfl,by decide +kernel⟩ (ZN1 K (pv 0)) (ZH (by decide)) (fun _ _ _ _=>(Ze (i:=0) (show List.Nodup (["tie","left_out"]:List Str) by decide +kernel) rfl (Or.inl rfl))) (fun _ _ _ _=>(Zz72 (Zg ZZ5 (pv 0) (pv 1) (Zr _)))) (fun _ _ _ _=>(pv 0))) Zz3)))),?_⟩;refine⟨_,rfl,a,rfl,ZH9 (k:=kd) (K:=K) (xs:=IL ns) (fun i ys H2=>H2=H/\i<=ns.length/\ys=IL (wo (ns.take i) z)) ⟨rfl,Yj _,rfl⟩ (Zn (by rw[Zz4];omega))
   (fun i ys H2 hi ⟨e,hi2,ey⟩=>⟨e ▸ hS,by rw[ey,Zz4];exact YF (ZO8 _ _) (by rw[Yz];omega)⟩) ?_ ?_⟩
  ·rintro i x ys H2 hi ⟨rfl,hil,rfl⟩ S hSS;obtain⟨y,rfl,hy⟩:=ZW hi;have hil':i<ns.length:=(Yy2.mp hy).1
   refine nm ?_;refine⟨_,rfl,_,rfl,rfl,_,rfl,?_⟩;rw[ZB];refine itn2 (fun he=>?_) (fun he=>?_)
   ·refine hSS _ _ ⟨rfl,hil',?_⟩;rw[Zz22 hy,if_neg (by simpa using he),YS]
   ·refine⟨_,rfl,hSS _ _ ⟨rfl,hil',?_⟩⟩;rw[Zz22 hy,if_pos he,ZR]
  ·rintro ys H2 ⟨rfl,_,rfl⟩ p hp;rw[Zz4,YG];refine⟨p,_,rfl,.inl ⟨SqL.of Zz1,fun r hr=>?_⟩⟩;exact q r _ (ZT (Zz5 hp) hr) ((Zz5 hp).free hr) Zz1
def spZc(K:PySem.W.Frag)(C:Addr):Sp:=fun vs H Q _=>∃(w a:Addr) (n:Int) (ps:List (Int × Int)) (kd:Bool) (ns:List Int),vs=[.ref w,.ref a]/\WebAt C H w n ps/\SqK kd K H a (IL ns)/\∀ b:Bool,(b=true↔IsSet ps.length ns)->Q (.bl b) H
theorem scZc:FnScope ["web","ties","last","tie"] ["web","ties"] (Zz7 sZc):=⟨rfl,rfl,rfl,by decide +kernel,rfl,by decide +kernel,by decide +kernel⟩
theorem okZc (T:Txt K mg t):FnOk P w K mg base CX0 2 t.aZc t.dZc ["web","ties"] (spZc K t.A_Web):=by
 refine T.fZc.ok scZc (fun vs H Q E h=>?_) (fun cdv A outer s H vs Q E hr h=>?_)
 ·obtain⟨w,a,n,ps,kd,ns,rfl,_⟩:=h;rfl
 ·obtain⟨w,a,n,ps,kd,ns,rfl,hW,hS,q⟩:=h;refine⟨_,(Zz2 (Zf (i:=2) scZc.nd rfl (Or.inl rfl) (Zh12 Za7 Zz9))
   (Zz2 (Ze1 YT rfl (ZN1 K (pv 1)) (Ze (i:=3) scZc.nd rfl (Or.inl rfl))
   (Zz2 (Zj1 (PW.pt (ZI12 (Zg Zs10 (pv 3) (pv 2) (Zr _)) (Ze9 (Zk3 (ZS5 (Za (okZ6 T) (hr.mono (by decide)) rfl T.mZ6 T.fZ6.kp T.bZ6 .nil Zq (Zz0 (pv 0) (Zz0 (pv 3) Zz3))))))))
   (Zz6 (Zo Zr7))
   Zs)
   (Zz6 (Zf (i:=2) scZc.nd rfl (Or.inl rfl) (pv 3)))))
   (Zz6 (Zo Zr7)))),?_⟩
  refine⟨_,rfl,?_⟩;refine⟨_,rfl,a,rfl,Zx3 (k:=kd) (K:=K) (xs:=IL ns) (fun i σ H2=>∃(l:Int) (v:Option V),σ=[some (.ref w),some (.ref a),some (.int l),v]/\H2=H/\(i=0->l=-1)/\(i≠0->ns[i - 1]?=some l)/\∀ j z,j<i->ns[j]?=some z->0<=z/\z<(ps.length:Int)/\∀ y,j≠0->ns[j - 1]?=some y->y<z)
   ⟨-1,none,rfl,rfl,fun _=>rfl,fun z=>absurd rfl z,fun j z hj=>absurd hj (Yy08 j)⟩ (fun i σ H2 _ ⟨_,_,_,e,_⟩=>e ▸ hS) ?_ ?_⟩
  ·rintro i x σ H2 hi ⟨l,v,rfl,rfl,hl0,hl1,hp⟩;obtain⟨z,rfl,hz⟩:=ZW hi;refine⟨_,rfl,_,rfl,_,_,rfl,rfl,_,rfl,?_⟩;refine itd2 (fun hc=>?_) (fun hc=>?_)
   ·-- tie<=last
    refine iteT ?_;refine q false ⟨fun z=>(nomatch z),fun hs=>?_⟩;obtain⟨b1,b2,b3⟩:=hs i z hz;by_cases h0:i=0
    ·have:=hl0 h0;omega
    ·have:=b3 l h0 (hl1 h0);omega
   ·refine⟨_,rfl,_,rfl,w,n,ps,z,rfl,hW,_,rfl,?_⟩;refine itn2 (fun hc2=>?_) (fun hc2=>?_)
    ·refine⟨_,rfl,?_⟩;refine⟨z,_,rfl,rfl,fun e=>(nomatch e),fun _=>by simpa using hz,fun j y hj ey=>?_⟩;by_cases hji:j<i
     ·exact hp j y hji ey
     ·have e:j=i:=by omega
      subst e;rw[hz]at ey;cases ey;refine⟨hc2.1,hc2.2,fun y h0 ey=>?_⟩;rw[hl1 h0]at ey;cases ey;omega
    ·refine q false ⟨fun z=>(nomatch z),fun hs=>?_⟩;obtain⟨b1,b2,b3⟩:=hs i z hz;exact absurd ⟨b1,b2⟩ hc2
  ·rintro σ H2 ⟨l,v,rfl,rfl,hl0,hl1,hp⟩;refine q true ⟨fun _ i z hz=>?_,fun _=>rfl⟩;have hi:i<(IL ns).length:=by rw[Zz4];exact(Yy2.mp hz).1
   exact hp i z hi hz
def spZd(K:PySem.W.Frag)(C:Addr):Sp:=fun vs H Q _=>∃(w a:Addr) (n:Int) (ps:List (Int × Int)) (kd:Bool) (ns:List Int),vs=[.ref w,.ref a]/\WebAt C H w n ps/\SqK kd K H a (IL ns)/\IsSet ps.length ns /\
 ∀(r:Addr) (H':Hp),Same H H'->SqT K H' r (IL ns)->Q (.ref r) H'
theorem scZd:FnScope ["web","ties"] ["web","ties"] (Zz7 sZd):=⟨rfl,rfl,rfl,by decide +kernel,rfl,by decide +kernel,by decide +kernel⟩
theorem okZd (T:Txt K mg t):FnOk P w K mg base CX0 3 t.aZd t.dZd ["web","ties"] (spZd K t.A_Web):=by
 refine T.fZd.ok scZd (fun vs H Q E h=>?_) (fun cdv A outer s H vs Q E hr h=>?_)
 ·obtain⟨w,a,n,ps,kd,ns,rfl,_⟩:=h;rfl
 ·obtain⟨w,a,n,ps,kd,ns,rfl,hW,hS,hI,q⟩:=h;refine⟨_,(Zz2 (Zj1 (Zk3 (ZS5 (Za (okZc T) (hr.mono (by decide)) rfl T.mZc T.fZc.kp T.bZc .nil Zq (Zz0 (pv 0) (Zz0 (pv 1) Zz3)))))
   (Zz6 Zd1)
   Zs)
   (Zz6 (Zo (Zt (Zs1 K) (by rfl) T.n_tuple Boot.«tuple» (Zz0 (pv 1) Zz3))))),?_⟩
  refine⟨_,rfl,_,rfl,w,a,n,ps,kd,ns,rfl,hW,hS,fun b hb=>⟨_,rfl,?_⟩⟩;refine itnb (fun _=>?_) (fun z=>?_)
  ·refine⟨_,rfl,a,IL ns,rfl,?_⟩;cases kd with
   | false=>exact .inl ⟨hS,fun l hl=>q l _ (Zz5 hl) (SqT.of Zz1)⟩
   | true=>exact .inr ⟨hS,q a H (Same.refl H) hS⟩
  ·rw[hb.mpr hI]at z;cases z
def spZe(K:PySem.W.Frag)(C:Addr):Sp:=fun vs H Q _=>∃(w m a:Addr) (n:Int) (ps:List (Int × Int)) (M:List Int) (kd:Bool) (ns:List Int),vs=[.ref w,.ref m,.ref a]/\WebAt C H w n ps/\Zu n ps/\H m=some (.lst (IL M))/\M.length=n.toNat/\SqK kd K H a (IL ns)/\(∀ z∈ns,0<=z/\z<(ps.length:Int)) /\
 ∀(m':Addr) (H':Hp),Same H H'->(m'=m\/H m'=none)->H' m'=some (.lst (IL (pmf M (Zz8 ps ns))))->Q (.ref m') H'
theorem scZe:FnScope ["web","marks","ties","tie","ends","low","high"] ["web","marks","ties"] (Zz7 sZe):=⟨rfl,rfl,rfl,by decide +kernel,rfl,by decide +kernel,by decide +kernel⟩
theorem okZe (T:Txt K mg t):FnOk P w K mg base CX0 1 t.aZe t.dZe ["web","marks","ties"] (spZe K t.A_Web):=by
 refine T.fZe.ok scZe (fun vs H Q E h=>?_) (fun cdv A outer s H vs Q E hr h=>?_)
 ·obtain⟨w,m,a,n,ps,M,kd,ns,rfl,_⟩:=h;rfl
 ·obtain⟨w,m0,a,n,ps,M0,kd,ns,rfl,⟨dx,tl,xs,h1,h2,h3⟩,⟨g1,g2,g3,g4⟩,hm,hlM,hS,hI,q⟩:=h;refine⟨_,(Zz2 (Ze1 YT rfl (ZN1 K (pv 2)) (Ze (i:=3) scZe.nd rfl (Or.inl rfl))
   (Zz2 (Zf (i:=4) scZe.nd rfl (Or.inl rfl) (ZP (Zm K) (ZL K (pv 0) rfl) (pv 3) (fun _ _=>rfl)))
   (Zz2 (Zf (i:=5) scZe.nd rfl (Or.inr rfl) (Zl (ZV7 rfl) (by rfl) T.n_min Boot.«min» (Zz0 (ZP (Zm K) (pv 1) (ZP (ZF K) (pv 4) Zz9 (fun _ _=>rfl)) (fun _ _=>rfl)) (Zz0 (ZP (Zm K) (pv 1) (ZP (ZF K) (pv 4) Zz9 (fun _ _=>rfl)) (fun _ _=>rfl)) Zz3))))
   (Zz2 (Zf (i:=6) scZe.nd rfl (Or.inr rfl) (Zl (ZW7 rfl) (by rfl) T.n_max Boot.«max» (Zz0 (ZP (Zm K) (pv 1) (ZP (ZF K) (pv 4) Zz9 (fun _ _=>rfl)) (fun _ _=>rfl)) (Zz0 (ZP (Zm K) (pv 1) (ZP (ZF K) (pv 4) Zz9 (fun _ _=>rfl)) (fun _ _=>rfl)) Zz3))))
   (Zz6 (Zj1 (Zg Zz16 (pv 5) (pv 6) (Zr _))
   (Zz6 (Zn7 (i:=1) rfl scZe.nd rfl rfl (sc0:=Zz7 sZe) (N0:=["web","marks","ties","tie","ends","low","high"]) (N':=["mark","high","low"]) (o:=1) (fr:=[6,5]) ⟨rfl,by decide +kernel,by decide +kernel,by decide +kernel,rfl,by decide +kernel⟩ (ZU K (pv 1)) (ZH (by decide)) (fun _ _ _ _=>(Ze (i:=0) (show List.Nodup (["mark","high","low"]:List Str) by decide +kernel) rfl (Or.inl rfl))) (fun _ _ _ _=>ZZ) (fun _ _ _ _=>(ZY5 (Zg Zd5 (pv 0) (pv 1) (Zr _)) (pv 2) (pv 0)))))
   Zs))))))
   (Zz6 (Zo (pv 1)))),?_⟩
  refine⟨_,rfl,a,rfl,Zx3 (k:=kd) (K:=K) (a:=a) (xs:=IL ns) (fun i σ H2=>∃(m:Addr) (v3 v4 v5 v6:Option V),σ=[some (.ref w),some (.ref m),some (.ref a),v3,v4,v5,v6]/\Same H H2/\(m=m0\/H m=none)/\H2 m=some (.lst (IL (pmf M0 (Zz8 ps (ns.take i))))))
   ⟨m0,none,none,none,none,rfl,Same.refl _,.inl rfl,hm⟩ (fun i σ H2 _ ⟨_,_,_,_,_,_,s2,_⟩=>hS.same s2) ?_ ?_⟩
  ·rintro i x σ H2 hi ⟨m,v3,v4,v5,v6,rfl,s2,hm0,hm2⟩;obtain⟨z,rfl,hz⟩:=ZW hi;obtain⟨z0,z1⟩:=hI z (Yy6 hz);obtain⟨p,hp⟩:∃ p,ps[z.toNat]?=some p:=⟨_,Yy0 (by omega)⟩;obtain⟨v,hv,tt,rfl,htt⟩:=h3.2 z.toNat p hp;obtain⟨e1,e2,e3,e4⟩:=g4 p (Yy6 hp);have ed:ps.getD z.toNat (0,0)=p:=getD_of hp
   refine⟨_,rfl,w,_,dx,_,_,rfl,s2 _ _ h1,T.cl_Web,T.n_Web_ties,Zl1 _ _,_,rfl,tl,xs,z,.ref tt,rfl,rfl,SqL.of (s2 _ _ h2),ZO (n:=z.toNat) (by omega) hv,?_⟩;have ht2:=s2 _ _ htt
   have hl:(pmf M0 (Zz8 ps (ns.take i))).length=n.toNat:=(ZV5 _ _).trans hlM;generalize hM:pmf M0 (Zz8 ps (ns.take i))=M at *;have ha:M[p.1.toNat]?=some (mk M p.1.toNat):=ZO1 (by omega)
   have hb:M[p.2.toNat]?=some (mk M p.2.toNat):=ZO1 (by omega);have iA:atI (IL M) p.1=some (.int (mk M p.1.toNat)):=ZO (n:=p.1.toNat) (by omega) (by rw[Ym,ha];rfl)
   have iB:atI (IL M) p.2=some (.int (mk M p.2.toNat)):=ZO (n:=p.2.toNat) (by omega) (by rw[Ym,hb];rfl);have t0:atI ([.int p.1,.int p.2]:List V) 0=some (.int p.1):=rfl
   have t1:atI ([.int p.1,.int p.2]:List V) 1=some (.int p.2):=rfl;refine⟨_,rfl,_,rfl,tt,_,0,_,rfl,rfl,SqT.of ht2,t0,m,_,p.1,_,rfl,rfl,SqL.of hm2,iA,_,rfl,_,rfl,tt,_,1,_,rfl,rfl,SqT.of ht2,t1,m,_,p.2,_,rfl,rfl,SqL.of hm2,iB,_,_,rfl,?_⟩;refine⟨_,rfl,_,rfl,tt,_,0,_,rfl,rfl,SqT.of ht2,t0,m,_,p.1,_,rfl,rfl,SqL.of hm2,iA,_,rfl,_,rfl,tt,_,1,_,rfl,rfl,SqT.of ht2,t1,m,_,p.2,_,rfl,rfl,SqL.of hm2,iB,_,_,rfl,?_⟩;have eL:(if mk M p.2.toNat<mk M p.1.toNat then mk M p.2.toNat else mk M p.1.toNat)=min (mk M p.1.toNat) (mk M p.2.toNat):=by rw[Int.min_def];split <;> split <;> omega
   have eH:(if mk M p.2.toNat > mk M p.1.toNat then mk M p.2.toNat else mk M p.1.toNat)=max (mk M p.1.toNat) (mk M p.2.toNat):=by rw[Int.max_def];split <;> split <;> omega
   refine⟨_,rfl,_,rfl,_,_,rfl,rfl,_,rfl,?_⟩;rw[eL,eH];have step:pmf M0 (Zz8 ps (ns.take (i+1)))=pm M p.1.toNat p.2.toNat:=by rw[Zl5 hz,Zk9,hM,ed]
   refine itd2 (fun hc=>?_) (fun hc=>?_)
   ·refine⟨_,rfl,m,rfl,⟨_,SqL.of hm2⟩,ZD1 (K:=K) (a:=m) (xs:=IL M) (fun j ys H3=>H3=H2/\j<=M.length/\ys=IL ((M.take j).map fun k=>if k=max (mk M p.1.toNat) (mk M p.2.toNat) then min (mk M p.1.toNat) (mk M p.2.toNat) else k)) ⟨rfl,Yj _,rfl⟩ (Zn (by rw[Zz4];omega))
     (fun j ys H3 hj ⟨e,hjl,ey⟩=>⟨e ▸ SqL.of hm2,by rw[ey,Zz4,Yb,Yz];omega⟩) ?_ ?_⟩
    ·rintro j y ys H3 hj ⟨rfl,hjl,rfl⟩ S hSS;obtain⟨k,rfl,hk⟩:=ZW hj;refine nmY ?_;refine⟨_,rfl,_,rfl,rfl,_,rfl,?_⟩;have hjl':j<M.length:=(Yy2.mp hk).1
     have app:∀ r:Int,r=(if k=max (mk M p.1.toNat) (mk M p.2.toNat) then min (mk M p.1.toNat) (mk M p.2.toNat) else k) ->
       IL ((M.take j).map fun k=>if k=max (mk M p.1.toNat) (mk M p.2.toNat) then min (mk M p.1.toNat) (mk M p.2.toNat) else k)++[.int r]=IL ((M.take (j+1)).map fun k=>if k=max (mk M p.1.toNat) (mk M p.2.toNat) then min (mk M p.1.toNat) (mk M p.2.toNat) else k):=by intro r er;rw[YO,hk,er];simp
     refine itd2 (fun he=>?_) (fun he=>?_)
     ·refine⟨_,rfl,hSS _ _ ⟨rfl,hjl',app _ ?_⟩⟩;rw[if_pos (V.int.inj he)]
     ·refine⟨_,rfl,hSS _ _ ⟨rfl,hjl',app _ ?_⟩⟩;rw[if_neg fun z=>he (Yy04 V.int z)]
    ·rintro ys H3 ⟨rfl,_,rfl⟩ p' hp';refine⟨p',_,_,_,_,rfl,ZT s2 hp',.inr (s2.free hp'),?_⟩;rw[Zz1,step,Zz4,YG];unfold pm;rw[if_pos hc]
   ·refine⟨m,_,_,_,_,rfl,s2,hm0,?_⟩;rw[hm2,step];unfold pm;rw[if_neg hc]
  ·rintro σ H2 ⟨m,v3,v4,v5,v6,rfl,s2,hm0,hm2⟩;rw[Zz4,YG]at hm2;exact⟨_,rfl,q m H2 s2 hm0 hm2⟩
def spZf(K:PySem.W.Frag)(C:Addr):Sp:=fun vs H Q _=>∃(w a:Addr) (n:Int) (ps:List (Int × Int)) (ns:List Int),vs=[.ref w,.ref a]/\WebAt C H w n ps/\Zu n ps/\SqT K H a (IL ns)/\(∀ z∈ns,0<=z/\z<(ps.length:Int)) /\
 ∀(m:Addr) (H':Hp),Same H H'->H m=none->H' m=some (.lst (IL (pms n.toNat (Zz8 ps ns))))->Q (.ref m) H'
theorem scZf:FnScope ["web","ties"] ["web","ties"] (Zz7 sZf):=⟨rfl,rfl,rfl,by decide +kernel,rfl,by decide +kernel,by decide +kernel⟩
theorem okZf (T:Txt K mg t):FnOk P w K mg base CX0 2 t.aZf t.dZf ["web","ties"] (spZf K t.A_Web):=by
 refine T.fZf.ok scZf (fun vs H Q E h=>?_) (fun cdv A outer s H vs Q E hr h=>?_)
 ·obtain⟨w,a,n,ps,ns,rfl,_⟩:=h;rfl
 ·obtain⟨w,a,n,ps,ns,rfl,hW,hG,hS,hI,q⟩:=h;refine⟨_,(Zz6 (Zo (Za (okZe T) (hr.mono (by decide)) rfl T.mZe T.fZe.kp T.bZe .nil Zq (Zz0 (pv 0) (Zz0 (Zt (ZD3 rfl) (by rfl) T.n_list Boot.«list» (Zz0 (Zt ZX4 (by rfl) T.n_range Boot.«range» (Zz0 (ZL K (pv 0) rfl) Zz3)) Zz3)) (Zz0 (pv 1) Zz3)))))),?_⟩;obtain⟨dx,tl,xs,h1,h2,h3⟩:=id hW;obtain⟨g1,g2,g3,g4⟩:=id hG;refine⟨_,rfl,_,rfl,w,_,dx,_,_,rfl,h1,T.cl_Web,T.n_Web_places,Zz31 _ _,n,rfl,fun r hr0=>⟨r,0,n,rfl,Zz1,⟨by decide,by decide,by omega,by omega⟩,by omega,fun m hm=>?_⟩⟩;have sm:Same H (upd (upd H r (.rng 0 n)) m (.lst ((rngI 0 n).map V.int))):=ZT (Zz5 hr0) hm
  refine⟨_,rfl,w,m,a,n,ps,(List.range n.toNat).map (fun(i:Nat)=>(i:Int)),true,ns,rfl,hW.same sm,hG,?_,by simp,ZY sm hS,hI,fun m' H' s' hf hm'=>?_⟩
  ·rw[Zz1,Zj7]
  ·refine q m' H' (sm.trans s') ?_ hm';rcases hf with rfl | hf
   ·exact(Zz5 hr0).free hm
   ·exact sm.free hf
def spZg(K:PySem.W.Frag)(C:Addr):Sp:=fun vs H Q _=>∃(w a:Addr) (n:Int) (ps:List (Int × Int)) (kd:Bool) (ns:List Int),vs=[.ref w,.ref a]/\WebAt C H w n ps/\Zu n ps/\SqK kd K H a (IL ns)/\IsSet ps.length ns /\
 ∀(r:Addr) (as:List Addr) (H':Hp),Same H H'->H r=none->H' r=some (.lst (as.map V.ref))->r∉as->GrpAt H H' (grp (pms n.toNat (Zz8 ps ns))) as->Q (.ref r) H'
theorem scZg:FnScope ["web","ties","pieces","place","mark"] ["web","ties"] (Zz7 sZg):=⟨rfl,rfl,rfl,by decide +kernel,rfl,by decide +kernel,by decide +kernel⟩
theorem okZg (T:Txt K mg t):FnOk P w K mg base CX0 4 t.aZg t.dZg ["web","ties"] (spZg K t.A_Web):=by
 refine T.fZg.ok scZg (fun vs H Q E h=>?_) (fun cdv A outer s H vs Q E hr h=>?_)
 ·obtain⟨w,a,n,ps,kd,ns,rfl,_⟩:=h;rfl
 ·obtain⟨w,a,n,ps,kd,ns,rfl,hW,hG,hS,hI,q⟩:=h;refine⟨_,(Zz2 (Zf (i:=2) scZg.nd rfl (Or.inl rfl) Zo9)
   (Zz2 (Ze1 YT rfl (Zw1 K rfl T.n_enumerate (Zz0 (Za (okZf T) (hr.mono (by decide)) rfl T.mZf T.fZf.kp T.bZf .nil Zq (Zz0 (pv 0) (Zz0 (Za (okZd T) (hr.mono (by decide)) rfl T.mZd T.fZd.kp T.bZd .nil Zq (Zz0 (pv 0) (Zz0 (pv 1) Zz3))) Zz3))) Zz3)) (Zz71 (n:=2) K rfl (Zp (Ze (i:=3) scZg.nd rfl (Or.inl rfl)) (Zp (Ze (i:=4) scZg.nd rfl (Or.inl rfl)) Zz61)))
   (Zz6 (ZA (Zf1 K YB YR YQ ZG (Zf1 K Yy34 Y2G PySem.F.type_dict_setdefault Zs3 (pv 2) (Zz0 (pv 4) (Zz0 (Zz81 Zz3) Zz3))) (Zz0 (pv 3) Zz3)))))
   (Zz6 (Zo (Zt (Zz73 rfl) (by rfl) T.n_list Boot.«list» (Zz0 (Zz811 K Yy34 Y2Z PySem.F.type_dict_values Zv7 (pv 2)) Zz3)))))),?_⟩
  intro d hd;have s0:Same H (upd H d (.dK [])):=Zz5 hd
  refine⟨_,rfl,_,rfl,_,rfl,w,a,n,ps,kd,ns,rfl,hW.same s0,hS.same s0,hI,fun r H1 s1 hr1=>?_⟩;refine⟨w,r,n,ps,ns,rfl,(hW.same s0).same s1,hG,hr1,hI.all,fun m H2 s2 hm1 hm2=>?_⟩;have s02:Same H H2:=(s0.trans s1).trans s2
  have hd2:H2 d=some (.dK []):=s2 _ _ (s1 _ _ Zz1);have hl:(pms n.toNat (Zz8 ps ns)).length=n.toNat:=Zi _ _
  generalize hM:pms n.toNat (Zz8 ps ns)=M at *;have hm0:H m=none:=(s0.trans s1).free hm1
  have n14:M.length<=14:=by have:=hG.2.1;omega
  refine⟨m,rfl,⟨_,SqL.of hm2⟩,?_⟩;refine ZZ3 (K:=K) (a:=m) (xs:=IL M) (fun i σ H3=>∃(as:List Addr) (v3 v4:Option V),σ=[some (.ref w),some (.ref a),some (.ref d),v3,v4]/\i<=M.length/\Same H H3/\H3 m=some (.lst (IL M))/\H3 d=some (.dK (gkv (grpA M i) as))/\d∉as/\m∉as/\GrpAt H H3 (grpA M i) as/\as.length<=i)
   ⟨[],none,none,rfl,Yj _,s02,hm2,hd2,by simp,by simp,⟨rfl,List.nodup_nil,fun i kv a e=>by simp[grpA]at e,fun a ha=>by simp at ha⟩,Yy7 _⟩ (fun i σ H3 _ ⟨_,_,_,_,_,_,h,_⟩=>SqL.of h) ?_ ?_
  ·rintro i x σ H3 pt hpt hi ⟨as,v3,v4,rfl,hil,s3,hm3,hd3,nda,nma,gA,hal⟩;obtain⟨k,rfl,hk⟩:=ZW hi;have hk':mk M i=k:=getD_of hk
   have hil':i<M.length:=(Yy2.mp hk).1;have s4:Same H3 (upd H3 pt (.tup [.int i,.int k])):=Zz5 hpt
   refine⟨pt,_,rfl,SqT.of Zz1,rfl,_,_,rfl,_,_,rfl,rfl,?_⟩;refine⟨_,rfl,.inr (.inr (.inl ⟨rfl,.inl ⟨_,s4 _ _ hd3⟩⟩)),_,rfl,(by show 0<=sizeLine;exact Yj _),fun l hl0=>?_⟩;have s5:Same H3 (upd (upd H3 pt (.tup [.int i,.int k])) l (.lst [])):=ZT s4 hl0
   have hd5:=s5 _ _ hd3;have hl3:H3 l=none:=s4.free hl0
   have ndl:d≠l:=Zb hd3 hl3;have gl:=gA.len
   refine⟨d,gkv (grpA M i) as,Sum.inl k,.ref l,rfl,rfl,hd5,?_,fun v hv=>?_,fun hv=>?_⟩
   ·rw[Zy6 gl];exact Zn (by omega)
   ·-- the mark has its list
    rcases Zw6 (g:=grpA M i) (as:=as) (k:=k) gl with ⟨h1,_⟩ | ⟨j,kv,b,e1,e2,e3,e4⟩
    ·rw[h1]at hv;cases hv
    ·rw[e4]at hv;cases hv;have hb5:=s5 _ _ (gA.at_ j kv b e1 e2)
     have hkm:k∈(grpA M i).map (·.1):=Yr.mpr ⟨kv,Yy6 e1,e3⟩;have hlen:kv.2.length<=i:=ZX3 (Yy6 e1)
     refine⟨.inl ⟨rfl,_,SqL.of hb5⟩,_,rfl,b,_,.int i,rfl,rfl,hb5,?_,?_⟩
     ·rw[Zz4];exact Zn (by omega)
     ·have hbas:b∈as:=Yy6 e2;have hdb:d≠b:=fun z=>nda (z ▸ hbas)
      have hmb:m≠b:=fun z=>nma (z ▸ hbas);have hb0:=gA.new b hbas
      have ekeys:(grpA M (i+1)).map (·.1)=(grpA M i).map (·.1):=by show(ZW3 (grpA M i) (i:Int) (mk M i)).map (·.1)=_;rw[ZE1,hk',if_pos hkm]
      refine⟨as,_,_,rfl,hil',Zv hb0 (s3.trans s5),by rw[Zc hmb];exact s5 _ _ hm3,by rw[Zc hdb,hd5,Yz6 ekeys],nda,nma,⟨?_,gA.nd,?_,gA.new⟩,by omega⟩
      ·have:=Yy04 List.length ekeys
       rw[Yb,Yb]at this;omega
      ·intro i2 kv2 a2 f1 f2;have f1:(ZW3 (grpA M i) (i:Int) (mk M i))[i2]?=some kv2:=f1
       unfold ZW3 at f1;rw[hk',if_pos hkm,Ym]at f1;cases f3:(grpA M i)[i2]? with
       | none=>rw[f3]at f1;cases f1
       | some kv3 =>
        rw[f3]at f1;have f1:(if kv3.1=k then (kv3.1,kv3.2++[(i:Int)]) else kv3)=kv2:=Yc f1
        by_cases hj:i2=j
        ·subst hj;rw[e1]at f3;cases f3;rw[e2]at f2;cases f2;rw[if_pos e3]at f1;subst f1;rw[Zz1];simp
        ·have hab:a2≠b:=fun z=>by subst z;exact hj (nodup_get gA.nd f2 e2)
         have hkk:¬ kv3.1=k:=fun z=>hj (nodup_get (Zh2 M i) (by rw[Ym,f3];exact Yy04 some z) (by rw[Ym,e1];exact Yy04 some e3));rw[if_neg hkk]at f1;subst f1;rw[Zc hab];exact s5 _ _ (gA.at_ i2 kv3 a2 f3 f2)
   ·-- a new list
    rcases Zw6 (g:=grpA M i) (as:=as) (k:=k) gl with ⟨h1,hkn⟩ | ⟨j,kv,b,e1,e2,e3,e4⟩
    ·have hl6:(upd (upd (upd H3 pt (.tup [.int i,.int k])) l (.lst [])) d (.dK (gkv (grpA M i) as++[(Sum.inl k,.ref l)]))) l=some (.lst []):=by rw[Zc (Yy03 ndl),Zz1]
     refine⟨.inl ⟨rfl,_,SqL.of hl6⟩,_,rfl,l,[],.int i,rfl,rfl,hl6,(by show 0<sizeLine;decide),?_⟩;have hl0':H l=none:=s3.free hl3
     have hlas:l∉as:=fun z=>by obtain⟨_,e⟩:=gA.mem z;rw[hl3]at e;cases e
     have hml:m≠l:=Zb hm3 hl3;have hmd:m≠d:=Zr3 hm3 hd3 (fun z=>nomatch z)
     have egr:grpA M (i+1)=grpA M i++[(k,[(i:Int)])]:=by show ZW3 (grpA M i) (i:Int) (mk M i)=_;unfold ZW3;rw[hk',if_neg hkn]
     have hdH:H d=none:=hd;refine⟨as++[l],_,_,rfl,hil',Zv hl0' (Zv hdH (s3.trans s5)),by rw[Zc hml,Zc hmd];exact s5 _ _ hm3,?_,?_,?_,⟨?_,?_,?_,?_⟩,?_⟩
     ·rw[Zc ndl,Zz1,egr,Zx6 gl]
     ·rw[Yy9,Yy1];rintro(z | z)
      ·exact nda z
      ·exact ndl z
     ·rw[Yy9,Yy1];rintro(z | z)
      ·exact nma z
      ·exact hml z
     ·rw[egr,Yy8,Yy8,gl];rfl
     ·exact Zi8 gA.nd hlas
     ·intro i2 kv2 a2 f1 f2;rw[egr]at f1;by_cases hi2:i2<(grpA M i).length
      ·rw[Yx hi2]at f1;rw[Yx (by omega)]at f2;have e:=gA.at_ i2 kv2 a2 f1 f2
       have n1:a2≠l:=Zb e hl3;have n2:a2≠d:=Zr3 e hd3 (fun z=>nomatch z)
       rw[Zc n1,Zc n2];exact s5 _ _ e
      ·have h2:i2=(grpA M i).length:=by
        have:=(Yy2.mp f1).1
        rw[Yy8,YM]at this;omega
       subst h2;rw[Yy (Yy7 _),Y1e]at f1;rw[Yy (by omega),gl,Y1e]at f2;cases f1;cases f2;rw[Zz1];rfl
     ·intro a2 ha2;rcases Yy9.mp ha2 with z | z
      ·exact gA.new a2 z
      ·rw[Yy1.mp z];exact hl0'
     ·rw[Yy8,YM];omega
    ·rw[e4]at hv;cases hv
  ·rintro σ H3 ⟨as,v3,v4,rfl,hil,s3,hm3,hd3,nda,nma,gA,hal⟩;rw[Zz4]at hd3 gA;refine⟨_,rfl,.inr (.inr (.inl ⟨rfl,.inl ⟨_,hd3⟩⟩)),d,_,rfl,rfl,hd3,fun p hp=>?_⟩;have s6:Same H3 (upd H3 p (Zq10 p d)):=Zz5 hp
   refine⟨p,d,_,rfl,Zz1,s6 _ _ hd3,fun r hr0=>?_⟩;have s7:Same H3 (upd (upd H3 p (Zq10 p d)) r (.lst ((gkv (grpA M M.length) as).map (·.2)))):=ZT s6 hr0
   refine q r as _ (s3.trans s7) ((s3.trans s6).free hr0) (by rw[Zz1,Zy8 gA.len]) (fun z=>?_) (gA.same s7);obtain⟨_,e⟩:=gA.mem z;rw[s6.free hr0]at e;cases e
def spZh(K:PySem.W.Frag)(C:Addr):Sp:=fun vs H Q _=>∃(w a:Addr) (n:Int) (ps:List (Int × Int)) (kd:Bool) (ns:List Int),vs=[.ref w,.ref a]/\WebAt C H w n ps/\Zu n ps/\SqK kd K H a (IL ns)/\IsSet ps.length ns /\
 ∀(b:Bool) (H':Hp),Same H H'->(b=true↔(grp (pms n.toNat (Zz8 ps ns))).length=1)->Q (.bl b) H'
theorem scZh:FnScope ["web","ties"] ["web","ties"] (Zz7 sZh):=⟨rfl,rfl,rfl,by decide +kernel,rfl,by decide +kernel,by decide +kernel⟩
theorem okZh (T:Txt K mg t):FnOk P w K mg base CX0 5 t.aZh t.dZh ["web","ties"] (spZh K t.A_Web):=by
 refine T.fZh.ok scZh (fun vs H Q E h=>?_) (fun cdv A outer s H vs Q E hr h=>?_)
 ·obtain⟨w,a,n,ps,kd,ns,rfl,_⟩:=h;rfl
 ·obtain⟨w,a,n,ps,kd,ns,rfl,hW,hG,hS,hI,q⟩:=h;refine⟨_,(Zz6 (Zo (Zc2 Zd5 (Zl (Zk K) (by rfl) T.n_len Boot.«len» (Zz0 (Za (okZg T) (hr.mono (by decide)) rfl T.mZg T.fZg.kp T.bZg .nil Zq (Zz0 (pv 0) (Zz0 (pv 1) Zz3))) Zz3)) Zz9 (Zr _)))),?_⟩;refine⟨_,rfl,_,rfl,w,a,n,ps,kd,ns,rfl,hW,hG,hS,hI,fun r as H' s1 hr0 hr1 hnr gA=>?_⟩;refine⟨r,_,rfl,.inl (SqL.of hr1),rfl,?_⟩;rw[Yb,gA.len,ZB];refine q _ H' s1 ?_;rw[YJ];omega
def spZi(K:PySem.W.Frag)(C:Addr):Sp:=fun vs H Q _=>∃(w:Addr) (n:Int) (ps:List (Int × Int)),vs=[.ref w]/\WebAt C H w n ps/\Zu n ps /\
 (Zz18 n ps->∀ H':Hp,Same H H'->Q .non H')/\(¬ Zz18 n ps->∀ H':Hp,Same H H'->False)
theorem scZi:FnScope ["web"] ["web"] (Zz7 sZi):=⟨rfl,rfl,rfl,by decide +kernel,rfl,by decide +kernel,by decide +kernel⟩
theorem okZi (T:Txt K mg t):FnOk P w K mg base CX0 6 t.aZi t.dZi ["web"] (spZi K t.A_Web):=by
 refine T.fZi.ok scZi (fun vs H Q E h=>?_) (fun cdv A outer s H vs Q E hr h=>?_)
 ·obtain⟨w,n,ps,rfl,_⟩:=h;rfl
 ·obtain⟨w,n,ps,rfl,hW,hG,q,qe⟩:=h;refine⟨_,(Zz6 (Zj1 (Zk3 (ZS5 (Za (okZh T) (hr.mono (by decide)) rfl T.mZh T.fZh.kp T.bZh .nil Zq (Zz0 (pv 0) (Zz0 (Za (okZa T) (hr.mono (by decide)) rfl T.mZa T.fZa.kp T.bZa .nil Zq (Zz0 (pv 0) Zz3)) Zz3)))))
   (Zz6 Zd1)
   Zs)),?_⟩
  refine⟨_,rfl,_,rfl,w,n,ps,rfl,hW,by have:=hG.2.2.1;omega,fun r H1 s1 hr0 hr1=>?_⟩;refine⟨w,r,n,ps,true,rgL ps.length,rfl,hW.same s1,hG,SqT.of hr1,Zv2 _,fun b H2 s2 hb=>⟨_,rfl,?_⟩⟩;rw[Zq6 (by have:=hG.1;omega) (ZK hG (Zv2 _).all)]at hb;refine itnb (fun z=>?_) (fun z=>?_)
  ·exact q (hb.mp z) H2 (s1.trans s2)
  ·exact qe (fun g=>by rw[hb.mpr g]at z;cases z) H2 (s1.trans s2)
def spZj(K:PySem.W.Frag)(C:Addr):Sp:=fun vs H Q _=>∃(w b:Addr) (n:Int) (ps:List (Int × Int)) (ws:List Int),vs=[.ref w,.ref b]/\WebAt C H w n ps/\Zu n ps/\SqL K H b (IL ws)/\ws.length=ps.length /\
 ∀(r:Addr) (ys:List V) (L:List (List Int)) (H':Hp),Same H H'->H r=none->TabAt H r n.toNat H' ys L->(∀ i j,i<n.toNat->j<n.toNat->fnL L i j=lapE (ZP1 ps ws) i j)->Q (.ref r) H'
theorem ZN5(x:V)(k:Nat):(List.replicate k [x]).flatten=List.replicate k x:=by
 induction k with
 | zero=>rfl
 | succ k ih=>rw[Y0J,Y1t,ih,Y0J];rfl
theorem ZW9(n i j:Nat):fnL (List.replicate n (List.replicate n 0)) i j=0:=by
 unfold fnL;cases h:(List.replicate n (List.replicate n (0:Int)))[i]? with
 | none =>
  have e:(List.replicate n (List.replicate n (0:Int))).getD i []=[]:=by rw[Yy3,h];rfl
  rw[e];rfl
 | some l =>
  have e:(List.replicate n (List.replicate n (0:Int))).getD i []=l:=by rw[Yy3,h];rfl
  rw[e,Y1k (Yy6 h),Yy3,Y0X];split <;> rfl
theorem TabAt.get{H0 H:Hp}{r:Addr}{n:Nat}{ys:List V}{L:List (List Int)}(h:TabAt H0 r n H ys L){i j:Nat}(hi:i<n)(hj:j<n):∃(A:Addr) (l:List Int) (x:Int),ys[i]?=some (.ref A)/\H A=some (.lst (IL l))/\l[j]?=some x/\l.length=n/\x=fnL L i j/\H0 A=none/\∀ y:Int,∃ L':List (List Int),TabAt H0 r n (upd H A (.lst ((IL l).set j (.int y)))) ys L'/\∀ a b,fnL L' a b=if a=i/\b=j then y else fnL L a b:=by
 obtain⟨A,l,y1,z1,hA,hl,hn,hr⟩:=h.at hi;obtain⟨x,hx⟩:∃ x,l[j]?=some x:=⟨_,Yy0 (by omega)⟩;refine⟨A,l,x,y1,hA,hx,hl,(Zs2 z1 hx).symm,hn,fun y=>⟨L.set i (l.set j y),?_,ZN11 z1 (by omega)⟩⟩;have e:(IL l).set j (.int y)=IL (l.set j y):=(List.map_set ..).symm
 rw[e];exact h.put y1 z1 hr (by rw[Y0A];exact hl)
theorem ZD7{xs:List V}{i:Int}(h0:0<=i)(h1:i<(xs.length:Int)):ixN xs.length i=some i.toNat:=by unfold ixN;rw[if_pos h0,if_pos (by omega)]
theorem scZj:FnScope ["web","weights","table","ends","weight","one","other"] ["web","weights"] (Zz7 sZj):=⟨rfl,rfl,rfl,by decide +kernel,rfl,by decide +kernel,by decide +kernel⟩
theorem okZj (T:Txt K mg t):FnOk P w K mg base CX0 1 t.aZj t.dZj ["web","weights"] (spZj K t.A_Web):=by
 refine T.fZj.ok scZj (fun vs H Q E h=>?_) (fun cdv A outer s H vs Q E hr h=>?_)
 ·obtain⟨w,b,n,ps,ws,rfl,_⟩:=h;rfl
 ·obtain⟨w,b,n,ps,ws,rfl,hW,hG,hS,hwl,q⟩:=h;refine⟨_,(Zz2 (Zn7 (i:=2) rfl scZj.nd rfl rfl (sc0:=Zz7 sZj) (N0:=["web","weights","table","ends","weight","one","other"]) (N':=["place","web"]) (o:=1) (fr:=[0]) ⟨rfl,by decide +kernel,by decide +kernel,by decide +kernel,rfl,by decide +kernel⟩ (ZW1 rfl T.n_range (Zz0 (ZL K (pv 0) rfl) Zz3)) (ZH (by decide)) (fun _ _ _ _=>(Ze (i:=0) (show List.Nodup (["place","web"]:List Str) by decide +kernel) rfl (Or.inl rfl))) (fun _ _ _ _=>ZZ) (fun _ _ _ _=>(Zj Zb11 (Zz81 (Zz0 Zz9 Zz3)) (ZL K (pv 1) rfl))))
   (Zz2 (Ze1 YT rfl (Zm9 K rfl T.n_zip (Zz0 (ZL K (pv 0) rfl) (Zz0 (pv 1) Zz3))) (Zz71 (n:=2) K rfl (Zp (Ze (i:=3) scZj.nd rfl (Or.inl rfl)) (Zp (Ze (i:=4) scZj.nd rfl (Or.inl rfl)) Zz61)))
   (Zz2 (Zf (i:=5) scZj.nd rfl (Or.inl rfl) (ZP (ZF K) (pv 3) Zz9 (fun _ _=>rfl)))
   (Zz2 (Zf (i:=6) scZj.nd rfl (Or.inl rfl) (ZP (ZF K) (pv 3) Zz9 (fun _ _=>rfl)))
   (Zz6 (Zj1 (Zg ZZ5 (pv 5) (pv 6) (Zr _))
   (Zz2 (Zi4 (ZP (Zm K) (pv 2) (pv 5) (fun _ _=>rfl)) (pv 5) (ZY1 K) (pv 4) ZD11 ZG1)
   (Zz2 (Zi4 (ZP (Zm K) (pv 2) (pv 6) (fun _ _=>rfl)) (pv 6) (ZY1 K) (pv 4) ZD11 ZG1)
   (Zz2 (Zi4 (ZP (Zm K) (pv 2) (pv 5) (fun _ _=>rfl)) (pv 6) (ZY1 K) (pv 4) ZM9 ZG1)
   (Zz6 (Zi4 (ZP (Zm K) (pv 2) (pv 6) (fun _ _=>rfl)) (pv 5) (ZY1 K) (pv 4) ZM9 ZG1)))))
   Zs)))))
   (Zz6 (Zo (pv 2))))),?_⟩
  obtain⟨dx,tl,xs,h1,h2,h3⟩:=id hW;have hl:=h3.1
  obtain⟨g1,g2,g3,g4⟩:=id hG;have one:1<=sizeLine:=by decide
  refine⟨_,rfl,w,_,dx,_,_,rfl,h1,T.cl_Web,T.n_Web_places,Zz31 _ _,n,rfl,by omega,by omega,Zl6 (lo:=0) (n:=n.toNat) (fun i zs H2=>Same H H2/\Bears (Zz97 H2) zs (List.replicate i (List.replicate n.toNat 0))/\zs.Nodup/\∀ A,V.ref A∈zs->H A=none/\∃ o,H2 A=some o) ⟨Same.refl _,⟨rfl,fun i l e=>by simp at e⟩,.nil,fun A h=>(by cases h)⟩ (Zn (by omega)) (fun i zs H2 _ ⟨_,e,_⟩=>by rw[e.1,YC];exact Yy7 _) ?_ ?_⟩
  ·rintro i zs H2 hi ⟨s2,hZ,hnd,hnew⟩ S hSS;refine nm ?_;refine⟨one,fun p1 hp1=>?_⟩;have u1:=Zz5 (o:=.lst [.int 0]) hp1
   refine⟨_,rfl,w,_,dx,_,_,rfl,u1 _ _ (s2 _ _ h1),T.cl_Web,T.n_Web_places,Zz31 _ _,p1,n,_,rfl,rfl,Zz1,by omega,by omega,Zg3 (by show 1 * n.toNat<=_;omega),fun p2 hp2=>?_⟩;have e0:(List.replicate n.toNat [V.int 0]).flatten=IL (List.replicate n.toNat 0):=by rw[ZN5];show _=(List.replicate n.toNat 0).map V.int;rw[List.map_replicate]
   rw[e0];have u2:=u1.trans (Zz5 (o:=.lst (IL (List.replicate n.toNat 0))) hp2)
   have hp20:H2 p2=none:=(Zz5 hp1).free hp2;refine hSS _ _ ⟨s2.trans u2,?_,?_,fun A hA=>?_⟩
   ·rw[List.replicate_succ'];exact(hZ.imp fun _ _ ⟨r',e,h⟩=>⟨r',e,u2 _ _ h⟩).snoc ⟨p2,rfl,Zz1⟩
   ·refine Yy06.mpr ⟨hnd,by simp,fun x hx y hy e=>?_⟩;rw[Yy1.mp hy]at e;obtain⟨_,o,ho⟩:=hnew p2 (e ▸ hx);rw[hp20]at ho;cases ho
   ·rcases Yy9.mp hA with e | e
    ·obtain⟨a1,o,a2⟩:=hnew A e;exact⟨a1,o,u2 _ _ a2⟩
    ·have e':A=p2:=by simpa using e
     rw[e'];exact⟨s2.free hp20,_,Zz1⟩
  rintro zs H2 ⟨s2,hZ,hnd,hnew⟩ tA htA;have s3:=s2.trans (Zz5 (o:=.lst zs) htA)
  have htA0:H tA=none:=s2.free htA;have hT:TabAt H tA n.toNat (upd H2 tA (.lst zs)) zs (List.replicate n.toNat (List.replicate n.toNat 0)):=⟨Zz1,hZ.imp fun _ _ ⟨r',e,h⟩=>⟨r',e,Zz5 htA _ _ h,Zb h htA⟩,YC,fun l h=>by rw[Y1k h];exact YC,hnd,fun A h=>(hnew A h).1⟩
  have hzero:∀ i j,fnL (List.replicate n.toNat (List.replicate n.toNat 0)) i j=0:=fun i j=>by
   have:=ZW9 n.toNat i j
   exact this
  generalize upd H2 tA (.lst zs)=H3 at *;generalize List.replicate n.toNat (List.replicate n.toNat (0:Int))=L0 at *;refine⟨_,rfl,w,_,dx,_,_,rfl,s3 _ _ h1,T.cl_Web,T.n_Web_ties,Zl1 _ _,_,rfl,tl,b,rfl,⟨_,_,SqL.of (s3 _ _ h2),s3.seq hS⟩,ZM11 (K:=K) (a:=tl) (b:=b) (xs:=xs) (ys:=IL ws) (by rw[Zz4];omega) (fun i σ H4=>∃(L:List (List Int)) (v3 v4 v5 v6:Option V),σ=[some (.ref w),some (.ref b),some (.ref tA),v3,v4,v5,v6]/\Same H H4/\TabAt H tA n.toNat H4 zs L/\∀ x y,x<n.toNat->y<n.toNat->fnL L x y=lapE (ZP1 (ps.take i) (ws.take i)) x y) ⟨L0,none,none,none,none,rfl,s3,hT,fun x y _ _=>hzero x y⟩ (fun i σ H4 _ ⟨_,_,_,_,_,_,e,_⟩=>⟨SqL.of (e _ _ h2),e.seq hS⟩) ?_ ?_⟩
  ·rintro i v v' σ H4 pt hpt hi hi' ⟨L,v3,v4,v5,v6,rfl,s4,hT4,hlap⟩;obtain⟨p,hp,tt,rfl,htt⟩:=h3.at hi;obtain⟨wt,rfl,hwt⟩:=ZW hi';obtain⟨e1,e2,e3,e4⟩:=g4 p (Yy6 hp);have u1:=Zz5 (o:=.tup [.ref tt,.int wt]) hpt
   refine⟨pt,_,rfl,SqT.of Zz1,rfl,_,_,rfl,_,_,rfl,rfl,?_⟩;have hT5:=hT4.same u1
   have s5:=s4.trans u1;generalize upd H4 pt (.tup [.ref tt,.int wt])=H5 at *;refine⟨_,rfl,tt,_,0,.int p.1,rfl,rfl,SqT.of (s5 _ _ htt),rfl,?_⟩;refine⟨_,rfl,tt,_,1,.int p.2,rfl,rfl,SqT.of (s5 _ _ htt),rfl,?_⟩;refine⟨_,rfl,_,rfl,rfl,_,rfl,?_⟩;rw[ZB];have esn:=Zz310 hp hwt
   refine itn2 (fun heq=>?_) (fun hne=>?_)
   ·refine⟨L,_,_,_,_,rfl,s5,hT5,fun x y hx hy=>?_⟩;rw[esn,Zs4 (by show p.1.toNat=p.2.toNat;rw[heq])];exact hlap x y hx hy
   have hne':p.1.toNat≠p.2.toNat:=fun e=>hne (by omega);obtain⟨A1,l1,x1,y1,hA1,hx1,hl1,ex1,hn1,put1⟩:=hT5.get (i:=p.1.toNat) (j:=p.1.toNat) (by omega) (by omega);refine⟨_,rfl,_,rfl,tA,zs,p.1,.ref A1,rfl,rfl,SqL.of hT5.tab,ZO (n:=p.1.toNat) (by omega) y1,_,rfl,A1,_,p.1,.int x1,rfl,rfl,SqL.of hA1,by omega,Za3 hx1,_,rfl,_,_,rfl,rfl,A1,_,p.1,p.1.toNat,rfl,rfl,hA1,ZD7 (by omega) (by rw[Zz4];omega),?_⟩;obtain⟨L1,hT6,hf1⟩:=put1 (x1+wt);have s6:Same H (upd H5 A1 (.lst ((IL l1).set p.1.toNat (.int (x1+wt))))):=Zv hn1 s5
   generalize upd H5 A1 (.lst ((IL l1).set p.1.toNat (.int (x1+wt))))=H6 at *;rw[ex1]at hf1;obtain⟨A2,l2,x2,y2,hA2,hx2,hl2,ex2,hn2,put2⟩:=hT6.get (i:=p.2.toNat) (j:=p.2.toNat) (by omega) (by omega);refine⟨_,rfl,_,rfl,tA,zs,p.2,.ref A2,rfl,rfl,SqL.of hT6.tab,ZO (n:=p.2.toNat) (by omega) y2,_,rfl,A2,_,p.2,.int x2,rfl,rfl,SqL.of hA2,by omega,Za3 hx2,_,rfl,_,_,rfl,rfl,A2,_,p.2,p.2.toNat,rfl,rfl,hA2,ZD7 (by omega) (by rw[Zz4];omega),?_⟩;obtain⟨L2,hT7,hf2⟩:=put2 (x2+wt);have s7:Same H (upd H6 A2 (.lst ((IL l2).set p.2.toNat (.int (x2+wt))))):=Zv hn2 s6
   generalize upd H6 A2 (.lst ((IL l2).set p.2.toNat (.int (x2+wt))))=H7 at *;rw[ex2]at hf2;obtain⟨A3,l3,x3,y3,hA3,hx3,hl3,ex3,hn3,put3⟩:=hT7.get (i:=p.1.toNat) (j:=p.2.toNat) (by omega) (by omega);refine⟨_,rfl,_,rfl,tA,zs,p.1,.ref A3,rfl,rfl,SqL.of hT7.tab,ZO (n:=p.1.toNat) (by omega) y3,_,rfl,A3,_,p.2,.int x3,rfl,rfl,SqL.of hA3,by omega,Za3 hx3,_,rfl,_,_,rfl,rfl,A3,_,p.2,p.2.toNat,rfl,rfl,hA3,ZD7 (by omega) (by rw[Zz4];omega),?_⟩;obtain⟨L3,hT8,hf3⟩:=put3 (x3 - wt);have s8:Same H (upd H7 A3 (.lst ((IL l3).set p.2.toNat (.int (x3 - wt))))):=Zv hn3 s7
   generalize upd H7 A3 (.lst ((IL l3).set p.2.toNat (.int (x3 - wt))))=H8 at *;rw[ex3]at hf3;obtain⟨A4,l4,x4,y4,hA4,hx4,hl4,ex4,hn4,put4⟩:=hT8.get (i:=p.2.toNat) (j:=p.1.toNat) (by omega) (by omega);refine⟨_,rfl,_,rfl,tA,zs,p.2,.ref A4,rfl,rfl,SqL.of hT8.tab,ZO (n:=p.2.toNat) (by omega) y4,_,rfl,A4,_,p.1,.int x4,rfl,rfl,SqL.of hA4,by omega,Za3 hx4,_,rfl,_,_,rfl,rfl,A4,_,p.1,p.1.toNat,rfl,rfl,hA4,ZD7 (by omega) (by rw[Zz4];omega),?_⟩;obtain⟨L4,hT9,hf4⟩:=put4 (x4 - wt);have s9:Same H (upd H8 A4 (.lst ((IL l4).set p.1.toNat (.int (x4 - wt))))):=Zv hn4 s8
   generalize upd H8 A4 (.lst ((IL l4).set p.1.toNat (.int (x4 - wt))))=H9 at *;rw[ex4]at hf4;refine⟨L4,_,_,_,_,rfl,s9,hT9,fun x y hx hy=>?_⟩;rw[esn,ZS2,<- hlap x y hx hy];exact four hne' x y hf1 hf2 hf3 hf4
  ·rintro σ H4 ⟨L,v3,v4,v5,v6,rfl,s4,hT4,hlap⟩;rw[hl,YG,<- hwl,YG]at hlap;exact⟨_,rfl,q tA zs L H4 s4 htA0 hT4 hlap⟩
def spZk(K:PySem.W.Frag)(C:Addr):Sp:=fun vs H Q _=>∃(w:Addr) (n:Int) (ps:List (Int × Int)),vs=[.ref w]/\WebAt C H w n ps/\Zu n ps /\
 ∀(r:Addr) (ys:List V) (L:List (List Int)) (H':Hp),Same H H'->H r=none->TabAt H r n.toNat H' ys L->(∀ i j,i<n.toNat->j<n.toNat->fnL L i j=lapE (ZP1 ps (List.replicate ps.length 1)) i j)->Q (.ref r) H'
theorem scZk:FnScope ["web"] ["web"] (Zz7 sZk):=⟨rfl,rfl,rfl,by decide +kernel,rfl,by decide +kernel,by decide +kernel⟩
theorem okZk (T:Txt K mg t):FnOk P w K mg base CX0 2 t.aZk t.dZk ["web"] (spZk K t.A_Web):=by
 refine T.fZk.ok scZk (fun vs H Q E h=>?_) (fun cdv A outer s H vs Q E hr h=>?_)
 ·obtain⟨w,n,ps,rfl,_⟩:=h;rfl
 ·obtain⟨w,n,ps,rfl,hW,hG,q⟩:=h;refine⟨_,(Zz6 (Zo (Za (okZj T) (hr.mono (by decide)) rfl T.mZj T.fZj.kp T.bZj .nil Zq (Zz0 (pv 0) (Zz0 (Zj Zb11 (Zz81 (Zz0 Zz9 Zz3)) (Zl (Zk K) (by rfl) T.n_len Boot.«len» (Zz0 (ZL K (pv 0) rfl) Zz3))) Zz3))))),?_⟩;obtain⟨dx,tl,xs,h1,h2,h3⟩:=id hW;have hl:=h3.1
  have g3:=hG.2.2.1;refine⟨_,rfl,(by show 1<=sizeLine;decide),fun p1 hp1=>?_⟩;have u1:=Zz5 (o:=.lst [.int 1]) hp1
  refine⟨_,rfl,w,_,dx,_,_,rfl,u1 _ _ h1,T.cl_Web,T.n_Web_ties,Zl1 _ _,tl,xs,rfl,.inl (SqL.of (u1 _ _ h2)),p1,(xs.length:Int),_,rfl,rfl,Zz1,by omega,by omega,Zg3 (by show 1 * _<=_;omega),fun p2 hp2=>?_⟩;have e0:(List.replicate (xs.length:Int).toNat [V.int 1]).flatten=IL (List.replicate ps.length 1):=by
   rw[Yw,hl,ZN5];show _=(List.replicate ps.length 1).map V.int
   rw[List.map_replicate]
  rw[e0];have u2:=u1.trans (Zz5 (o:=.lst (IL (List.replicate ps.length 1))) hp2)
  refine⟨w,p2,n,ps,List.replicate ps.length 1,rfl,hW.same u2,hG,SqL.of Zz1,YC,fun r ys L H' s hr hT hf=>?_⟩;exact q r ys L H' (u2.trans s) (u2.free hr) ⟨hT.tab,hT.rows,hT.len,hT.all,hT.nd,fun A h=>u2.free (hT.new A h)⟩ hf
def spZl(K:PySem.W.Frag)(C:Addr):Sp:=fun vs H Q _=>∃(w:Addr) (n:Int) (ps:List (Int × Int)),vs=[.ref w]/\WebAt C H w n ps/\Zu n ps/\∀(c:Nat) (H':Hp),TC n ps c->Same H H'->Q (.int c) H'
theorem Zr8(u v i:Nat):(ind u v i).natAbs<=1:=by unfold ind;split <;> split <;> decide
theorem Zm8:∀ {E:List Ed},(∀ e∈E,e.2.2=1)->∀ i j,(lapE E i j).natAbs<=E.length
 | [],_,i,j=>Yy7 0
 | e :: E,h,i,j=>by
  have ih:=Zm8 (fun f hf=>h f (Yg _ hf)) i j;have h1:=Zr8 e.1 e.2.1 i
  have h2:=Zr8 e.1 e.2.1 j;have h3:(ind e.1 e.2.1 i * ind e.1 e.2.1 j).natAbs<=1:=by rw[Yy32];exact Y1h h1 h2
  show(e.2.2 * (ind e.1 e.2.1 i * ind e.1 e.2.1 j)+lapE E i j).natAbs<=(e :: E).length;rw[h e Ye,Y0E,YA]
  have:=Int.natAbs_add_le (ind e.1 e.2.1 i * ind e.1 e.2.1 j) (lapE E i j)
  omega
theorem ZQ6{α:Type}{l:List α}{i:Nat}(hi:l.length=i+1):cutz l (i:Int)=l.take i:=by unfold cutz;rw[Yw,Yy12 (by omega),YS]
theorem scZl:FnScope ["web"] ["web"] (Zz7 sZl):=⟨rfl,rfl,rfl,by decide +kernel,rfl,by decide +kernel,by decide +kernel⟩
theorem okZl (T:Txt K mg t):FnOk P w K mg base CX0 3 t.aZl t.dZl ["web"] (spZl K t.A_Web):=by
 refine T.fZl.ok scZl (fun vs H Q E h=>?_) (fun cdv A outer s H vs Q E hr h=>?_)
 ·obtain⟨w,n,ps,rfl,_⟩:=h;rfl
 ·obtain⟨w,n,ps,rfl,hW,hG,q⟩:=h;refine⟨_,(Zz6 (Zo (Za (okZ3 T) (hr.mono (by decide)) rfl T.mZ3 T.fZ3.kp T.bZ3 .nil Zq (Zz0 (Za (okZ5 T) (hr.mono (by decide)) rfl T.mZ5 T.fZ5.kp T.bZ5 .nil Zq (Zz0 (Za (okZk T) (hr.mono (by decide)) rfl T.mZk T.fZk.kp T.bZk .nil Zq (Zz0 (pv 0) Zz3)) (Zz0 (Zj ZQ1 (ZL K (pv 0) rfl) Zz9) Zz3))) Zz3)))),?_⟩;obtain⟨g1,g2,g3,g4⟩:=id hG;refine⟨_,rfl,w,n,ps,rfl,hW,hG,fun r ys L H1 s1 hr hT hf=>?_⟩;obtain⟨dx,tl,xs,h1,h2,h3⟩:=id hW;refine⟨_,rfl,w,_,dx,_,_,rfl,s1 _ _ h1,T.cl_Web,T.n_Web_places,Zz31 _ _,_,_,rfl,rfl,?_⟩;obtain⟨k,hk⟩:∃ k:Nat,n - 1=(k:Int):=⟨(n - 1).toNat,by omega⟩;have hnk:n.toNat=k+1:=by omega
  have hLl:=hT.len;have hTB:Bears (Zz97 H1) ys L:=hT.rows.imp fun _ _ h=>h.list
  refine⟨r,ys,L,k,?_,SqL.of hT.tab,hTB,by omega,fun l h=>by rw[hT.all l h];omega,by omega,fun r2 zs H2 s2 hr2 hZ=>?_⟩
  ·show [V.ref r,V.int (n - 1)]=_;rw[hk]
  have w1:∀ e∈ZP1 ps (List.replicate ps.length (1:Int)),e.2.2=1:=fun e he=>by
   unfold ZP1 at he;obtain⟨i,hi⟩:=YZ he;rw[Y0N]at hi;cases h1:ps[i]? with
   | none=>rw[h1]at hi;cases hi
   | some p =>
    cases h2:(List.replicate ps.length (1:Int))[i]? with
    | none=>rw[h1,h2]at hi;cases hi
    | some w =>
     rw[h1,h2]at hi;obtain rfl:=Yc hi;exact Y1k (Yy6 h2)
  have el:(ZP1 ps (List.replicate ps.length (1:Int))).length<=30:=by unfold ZP1;rw[Y1j,YC];omega
  have hM:(cutz L (k:Int)).map (fun l=>cutz l (k:Int))=(L.take k).map fun l=>l.take k:=by rw[ZQ6 (by omega)];exact YL fun l hl=>ZQ6 (by rw[hT.all l (Y0R hl)];omega)
  rw[hM]at hZ;have hMl:((L.take k).map fun l=>l.take k).length=k:=by rw[Yb,Yz];omega
  have hfn:∀ i j,i<k->j<k->fnL ((L.take k).map fun l=>l.take k) i j=lapE (ZP1 ps (List.replicate ps.length 1)) i j:=fun i j hi hj=>by
   rw[<- hf i j (by omega) (by omega)];obtain⟨l,hl⟩:∃ l,L[i]?=some l:=⟨_,Yy0 (by omega)⟩;have hll:=hT.all l (Yy6 hl)
   obtain⟨x,hx⟩:∃ x,l[j]?=some x:=⟨_,Yy0 (by omega)⟩;rw[Zs2 hl hx];exact Zs2 (l:=l.take k) (by rw[Ym,Y2m,if_pos hi,hl];rfl) (by rw[Y2m,if_pos hj];exact hx)
  refine⟨r2,false,zs,(L.take k).map fun l=>l.take k,rfl,SqL.of hr2,hZ.imp (fun _ _ ⟨r',e,h⟩=>⟨r',false,e,SqL.of h⟩),by rw[hMl];omega,fun i j hi hj=>?_,fun _ H3 s3=>?_,fun h=>absurd (fun l hl=>?_) h⟩
  ·rw[hMl]at hi hj;rw[hfn i j hi hj];exact YF (Zm8 w1 i j) (YF el (YF (by decide:30<=2 ^ 5) (Nat.pow_le_pow_right (by decide) (by decide))))
  ·have hd:det ((L.take k).map fun l=>l.take k).length (fnL ((L.take k).map fun l=>l.take k))=det (n - 1).toNat (lapE (ZP1 ps (List.replicate ps.length 1))):=by rw[hMl,show(n - 1).toNat=k by omega];exact Zh fun i j hi hj=>hfn i j hi hj
   obtain⟨c,M,a1,a2,a3⟩:∃ c,TC n ps c:=by obtain⟨M,a1,a2,_⟩:=Zq1 _ (n - 1).toNat (ZP1 ps (List.replicate ps.length 1)) rfl (ZU11 hG _);exact⟨M.length,M,a1,fun l=>by rw[a2,Zp8 g1 YC],rfl⟩
   rw[hd,ZR8 hG a1 a2,a3];exact q c H3 ⟨M,a1,a2,a3⟩ (s1.trans (s2.trans s3))
  ·obtain⟨l0,h0,rfl⟩:=Yr.mp hl;rw[hMl,Yz,hT.all l0 (Y0R h0)];omega
def spZm(K:PySem.W.Frag)(C:Addr):Sp:=fun vs H Q _=>∃(w a b:Addr) (n:Int) (ps:List (Int × Int)) (Is Os:List Int),vs=[.ref w,.ref a,.ref b]/\WebAt C H w n ps/\Zu n ps/\SqT K H a (IL Is)/\SqT K H b (IL Os)/\IsSet ps.length Is/\Os.length<=30/\(∀ z∈Is,z∉Os)/\∀(c:Nat) (H':Hp),PC n ps Is Os c->Same H H'->Q (.int c) H'
theorem Zz27{K:PySem.W.Frag}{H:Hp}{a b:Addr}{l m:List Int}{Q:VK}(ha:SqT K H a (IL l))(hb:SqT K H b (IL m))(hl:l.length+m.length<=1000)(k:∀(r:Addr) (H':Hp),Same H H'->SqT K H' r (IL (l++m))->Q (.ref r) H'):ZZ10 K (.ref a) (.ref b) H Q:=by
 refine⟨a,b,_,_,rfl,rfl,ha,hb,by rw[Zz4,Zz4];exact YF hl (by decide),fun e=>?_,fun _ e=>?_,fun _ _ p hp=>?_⟩
 ·have el:l=[]:=Y1G.mp e;rw[el,Y0L]at k;exact k b H (Same.refl _) hb
 ·have em:m=[]:=Y1G.mp e;rw[em,YS]at k;exact k a H (Same.refl _) ha
 ·refine k p _ (Zz5 hp) (SqT.of ?_);rw[Zz1,ZV2]
theorem ZB6{gone:List Int}(j:Nat):freT (j+1) gone=freT j gone++(if ((j:Int)∈gone) then [] else [(j:Int)]):=by
 unfold freT;rw[ZM5,Yy02];congr 1;by_cases c:(j:Int)∈gone
 ·rw[if_pos c,Yy07,if_neg (by simp[c])];rfl
 ·rw[if_neg c,Yy07,if_pos (by simp[c])];rfl
theorem scZm:FnScope ["web","inside","outside","marks","firsts","numbers","gone","free"] ["web","inside","outside"] (Zz7 sZm):=⟨rfl,rfl,rfl,by decide +kernel,rfl,by decide +kernel,by decide +kernel⟩
theorem okZm (T:Txt K mg t):FnOk P w K mg base CX0 4 t.aZm t.dZm ["web","inside","outside"] (spZm K t.A_Web):=by
 refine T.fZm.ok scZm (fun vs H Q E h=>?_) (fun cdv A outer s H vs Q E hr h=>?_)
 ·obtain⟨w,a,b,n,ps,Is,Os,rfl,_⟩:=h;rfl
 ·obtain⟨w,a,b,n,ps,Is,Os,rfl,hW,hG,hA,hB,hI,hO,hIO,q⟩:=h;refine⟨_,(Zz2 (Zf (i:=3) scZm.nd rfl (Or.inl rfl) (Za (okZf T) (hr.mono (by decide)) rfl T.mZf T.fZf.kp T.bZf .nil Zq (Zz0 (pv 0) (Zz0 (pv 1) Zz3))))
   (Zz2 (Zf (i:=4) scZm.nd rfl (Or.inr rfl) (Za2 K rfl rfl T.n_sorted rfl T.n_set (Zz0 (pv 3) Zz3)))
   (Zz2 (Zj1 (Zg Ze11 (Zj Zz01 (Zl (Zk K) (by rfl) T.n_len Boot.«len» (Zz0 (pv 4) Zz3)) (Zl (Zk K) (by rfl) T.n_len Boot.«len» (Zz0 (pv 1) Zz3))) (ZL K (pv 0) rfl) (Zr _))
   (Zz6 (Zo Zz9))
   Zs)
   (Zz2 (Zf (i:=5) scZm.nd rfl (Or.inr rfl) (Zc5 rfl (sc0:=Zz7 sZm) (N0:=["web","inside","outside","marks","firsts","numbers","gone","free"]) (N':=["mark","firsts"]) (o:=1) (fr:=[4]) ⟨rfl,by decide +kernel,by decide +kernel,by decide +kernel,rfl,by decide +kernel⟩ (ZU K (pv 3)) (ZH (by decide)) (fun _ _ _ _=>(Ze (i:=0) (show List.Nodup (["mark","firsts"]:List Str) by decide +kernel) rfl (Or.inl rfl))) (fun _ _ _ _=>ZZ) (fun _ _ _ _=>(Zf1 K YB PySem.F.slot_list_index PySem.F.type_list_index (Zw7 K) (pv 1) (Zz0 (pv 0) Zz3)))))
   (Zz2 (Zf (i:=6) scZm.nd rfl (Or.inr rfl) (Zj (Yz2 K) (pv 1) (pv 2)))
   (Zz2 (Zn7 (i:=7) rfl scZm.nd rfl rfl (sc0:=Zz7 sZm) (N0:=["web","inside","outside","marks","firsts","numbers","gone","free"]) (N':=["tie","ends","gone"]) (o:=2) (fr:=[6]) ⟨rfl,by decide +kernel,by decide +kernel,by decide +kernel,rfl,by decide +kernel⟩ (Zw1 K rfl T.n_enumerate (Zz0 (ZL K (pv 0) rfl) Zz3)) (Zd2 (ZM (by decide) (ZM (by decide) Ze2))) (fun _ _ _ _=>(Zz71 (n:=2) K rfl (Zp (Ze (i:=0) (show List.Nodup (["tie","ends","gone"]:List Str) by decide +kernel) rfl (Or.inl rfl)) (Zp (Ze (i:=1) (show List.Nodup (["tie","ends","gone"]:List Str) by decide +kernel) rfl (Or.inl rfl)) Zz61)))) (fun _ _ _ _=>(Zz72 (Zg (ZM2 K) (pv 0) (pv 2) rfl))) (fun _ _ _ _=>(pv 1)))
   (Zz6 (Zo (Za (okZl T) (hr.mono (by decide)) rfl T.mZl T.fZl.kp T.bZl .nil Zq (Zz0 (ZX5 T.k_Web (okZ8 T) (hr.mono (by decide)) rfl T.c_Web T.bZ8 .nil Zq (Zz0 (Zl (Zk K) (by rfl) T.n_len Boot.«len» (Zz0 (pv 4) Zz3)) (Zz0 (Zc5 rfl (sc0:=Zz7 sZm) (N0:=["web","inside","outside","marks","firsts","numbers","gone","free"]) (N':=["ends","numbers"]) (o:=1) (fr:=[5]) ⟨rfl,by decide +kernel,by decide +kernel,by decide +kernel,rfl,by decide +kernel⟩ (ZU K (pv 7)) (ZH (by decide)) (fun _ _ _ _=>(Ze (i:=0) (show List.Nodup (["ends","numbers"]:List Str) by decide +kernel) rfl (Or.inl rfl))) (fun _ _ _ _=>ZZ) (fun _ _ _ _=>(ZN (Zz0 (ZP (Zm K) (pv 1) (ZP (ZF K) (pv 0) Zz9 (fun _ _=>rfl)) (fun _ _=>rfl)) (Zz0 (ZP (Zm K) (pv 1) (ZP (ZF K) (pv 0) Zz9 (fun _ _=>rfl)) (fun _ _=>rfl)) Zz3))))) Zz3))) Zz3)))))))))),?_⟩
  obtain⟨g1,g2,g3,g4⟩:=id hG;have hIl:=hI.len
  refine⟨_,rfl,_,rfl,w,a,n,ps,Is,rfl,hW,hG,hA,hI.all,fun mA H1 s1 hm0 hm1=>?_⟩;have hpl:=Zi n.toNat (Zz8 ps Is)
  have hin:=ZK (ns:=Is) hG hI.all;have hel:(Zz8 ps Is).length=Is.length:=Yb ..
  refine nm ?_;refine⟨_,rfl,mA,_,rfl,SqL.of hm1,by omega,fun F hF hFm fA hfA=>?_⟩;have s2:=Zz5 (o:=.lst (IL F)) hfA
  have hf2:(upd H1 fA (.lst (IL F))) fA=some (.lst (IL F)):=Zz1;have hm2:=s2 _ _ hm1
  have s02:=s1.trans s2;refine nm ?_;dsimp only;generalize upd H1 fA (.lst (IL F))=H2 at *;obtain⟨g,hfg,hfk,hgg⟩:=Zy9 hin hF hFm;obtain⟨k1,kn,nk⟩:=Zz04 hin (by omega) hF hFm;have hA2:=ZY s02 hA
  have hB2:=ZY s02 hB;obtain⟨dx,tl,xs,h1,h2,h3⟩:=hW.same s02;have hlx:=h3.1
  refine⟨_,rfl,fA,_,rfl,.inl (SqL.of hf2),_,rfl,a,_,rfl,.inr hA2,_,_,rfl,rfl,_,rfl,w,_,dx,_,_,rfl,h1,T.cl_Web,T.n_Web_places,Zz31 _ _,_,_,rfl,rfl,_,rfl,?_⟩;rw[Zz4,Zz4];refine itd2 (fun hc=>?_) (fun hc=>?_)
  ·exact q 0 H2 (Zz911 hG hI hfg hfk hgg k1 kn (by omega)) s02
  refine⟨_,rfl,mA,rfl,⟨_,SqL.of hm2⟩,ZD1 (K:=K) (a:=mA) (xs:=IL (pms n.toNat (Zz8 ps Is))) (fun i zs H3=>H3=H2/\i<=n.toNat/\zs=IL (((pms n.toNat (Zz8 ps Is)).take i).map fun z=>(nix F z:Int))) ⟨rfl,Yj _,rfl⟩ (Zn (by rw[Zz4,hpl];omega)) (fun i zs H3 _ ⟨e,hi,ez⟩=>⟨e ▸ SqL.of hm2,by rw[ez,Zz4,Yb,Yz];omega⟩) ?_ ?_⟩
  ·rintro i v zs H3 hi ⟨rfl,hin3,rfl⟩ S hSS;obtain⟨z,rfl,hz⟩:=ZW hi;have hzF:z∈F:=(hFm z).mpr (Yy6 hz)
   have hlt:=(Yy2.mp hz).1;refine nm ?_;refine⟨_,rfl,.inl ⟨rfl,_,SqL.of hf2⟩,_,rfl,fA,F,z,nix F z,rfl,rfl,SqL.of hf2,Zf2 hzF,fun i hi e=>by have:=nodup_get (Zn1 hF) e (Zf2 hzF);omega,hSS _ _ ⟨rfl,by omega,?_⟩⟩;rw[YO,hz,YE];exact(ZR _ _).symm
  rintro zs H3 ⟨rfl,_,rfl⟩ nA hnA;rw[Zz4,YG];have s3:=Zz5 (o:=.lst (IL ((pms n.toNat (Zz8 ps Is)).map fun z=>(nix F z:Int)))) hnA
  have hn4:(upd H3 nA (.lst (IL ((pms n.toNat (Zz8 ps Is)).map fun z=>(nix F z:Int))))) nA=some (.lst (IL ((pms n.toNat (Zz8 ps Is)).map fun z=>(nix F z:Int)))):=Zz1;have hf4:=s3 _ _ hf2
  have hA4:=ZY s3 hA2;have hB4:=ZY s3 hB2
  have s04:=s02.trans s3;generalize upd H3 nA (.lst (IL ((pms n.toNat (Zz8 ps Is)).map fun z=>(nix F z:Int))))=H4 at *;have nAt:∀ x:Int,0<=x->x<n->((pms n.toNat (Zz8 ps Is)).map fun z=>(nix F z:Int))[x.toNat]?=some (nix F (mk (pms n.toNat (Zz8 ps Is)) x.toNat):Int):=fun x x0 x1=>by rw[Ym,Yy0 (by omega)];unfold mk;rw[Yy3,Yy0 (by omega)];rfl
  refine nm ?_;dsimp only;refine⟨_,rfl,_,rfl,Zz27 hA4 hB4 (by omega) fun gA H5 s5 hg5=>?_⟩;have s05:=s04.trans s5
  obtain⟨dx,tl,xs,h1,h2,h3⟩:=hW.same s05;have hlx:=h3.1
  refine nm ?_;dsimp only;refine⟨_,rfl,w,_,dx,_,_,rfl,h1,T.cl_Web,T.n_Web_ties,Zl1 _ _,tl,rfl,⟨_,SqL.of h2⟩,Zr4 (K:=K) (a:=tl) (xs:=xs) (fun j zs H6=>Same H5 H6/\j<=ps.length/\PairsV H6 zs ((freT j (Is++Os)).map fun z=>ps.getD z.toNat (0,0))) ⟨Same.refl _,Yj _,PairsV.nil⟩ (Zn (by omega)) (fun j zs H6 hj ⟨e,hj2,ez⟩=>⟨e.seq (SqL.of h2),by rw[ez.1,Yb];refine YF (Y0a ..) ?_;rw[Zy];exact Yy7 _⟩) ?_ ?_⟩
  ·rintro j v zs H6 pt hpt hj ⟨s6,hjl,hZ⟩ S hSS;obtain⟨p,hp,tt,rfl,ht⟩:=h3.at hj;have hjl':=(Yy2.mp hp).1
   have s7:=Zz5 (o:=.tup [.int j,.ref tt]) hpt;refine⟨pt,_,rfl,SqT.of Zz1,rfl,_,_,rfl,_,_,rfl,rfl,?_⟩;have hZ7:=hZ.same s7
   have s57:=s6.trans s7;generalize upd H6 pt (.tup [.int j,.ref tt])=H7 at *;refine⟨_,rfl,_,rfl,gA,_,rfl,.inr (ZY s57 hg5),rfl,Zz03 _,_,rfl,?_⟩;rw[ZV3];refine itn2 (fun hin2=>?_) (fun hin2=>?_)
   ·refine hSS _ _ ⟨s57,hjl',?_⟩;rw[ZB6,if_pos hin2,YS];exact hZ7
   ·refine⟨_,rfl,hSS _ _ ⟨s57,hjl',?_⟩⟩;rw[ZB6,if_neg hin2,YE];refine hZ7.app ?_;show PairsV H7 [V.ref tt] [ps.getD ((j:Nat):Int).toNat (0,0)]
    rw[Yw,getD_of hp];exact PairsV.nil.snoc ⟨tt,rfl,s57 _ _ ht⟩
  rintro zs H6 ⟨s6,_,hZ⟩ rA hrA;rw[hlx]at hZ;have s7:=Zz5 (o:=.lst zs) hrA
  have hr7:(upd H6 rA (.lst zs)) rA=some (.lst zs):=Zz1;have hZ7:=hZ.same s7
  have s57:=s6.trans s7;generalize upd H6 rA (.lst zs)=H7 at *;have hf7:=s57 _ _ (s5 _ _ hf4)
  have hn7:=s57 _ _ (s5 _ _ hn4);have hzl:=hZ7.1
  have hfl:(freT ps.length (Is++Os)).length<=30:=by refine YF (Y0a ..) ?_;rw[Zy];omega
  rw[Yb]at hzl;refine nm ?_;dsimp only;refine⟨_,rfl,fA,_,rfl,.inl (SqL.of hf7),_,rfl,rA,rfl,⟨_,SqL.of hr7⟩,ZD1 (K:=K) (a:=rA) (xs:=zs) (fun i ws H8=>Same H7 H8/\i<=(freT ps.length (Is++Os)).length/\PairsV H8 ws (((freT ps.length (Is++Os)).take i).map fun z=>((nix F (mk (pms n.toNat (Zz8 ps Is)) (Zw ps z).1):Int),(nix F (mk (pms n.toNat (Zz8 ps Is)) (Zw ps z).2):Int)))) ⟨Same.refl _,Yj _,PairsV.nil⟩ (Zn (by omega))
   (fun i ws H8 hi ⟨e,hi2,ew⟩=>⟨e.seq (SqL.of hr7),by rw[ew.1,Yb,Yz];omega⟩) ?_ ?_⟩
  ·rintro i v ws H8 hi ⟨s8,hil,hPw⟩ S hSS;obtain⟨p,hp,tt,rfl,ht⟩:=hZ7.at hi;rw[Ym]at hp;obtain⟨z,hz,ez⟩:∃ z,(freT ps.length (Is++Os))[i]?=some z/\ps.getD z.toNat (0,0)=p:=by
    cases hq:(freT ps.length (Is++Os))[i]? with
    | none=>rw[hq]at hp;cases hp
    | some z=>rw[hq]at hp;exact⟨z,rfl,Yc hp⟩
   have hz1:=(freT_mem.mp (Yy6 hz)).1;obtain⟨p',hp'⟩:∃ p,ps[z.toNat]?=some p:=⟨_,Yy0 (by omega)⟩;have epp:p'=p:=by rw[<- ez,getD_of hp']
   rw[epp]at hp';obtain⟨e1,e2,e3,e4⟩:=g4 p (Yy6 hp');have ee:Zw ps z=(p.1.toNat,p.2.toNat):=by unfold Zw;rw[getD_of hp']
   have ht8:=s8 _ _ ht;have hn8:=s8 _ _ hn7
   refine nm ?_;refine⟨_,rfl,_,rfl,tt,_,0,.int p.1,rfl,rfl,SqT.of ht8,rfl,nA,_,_,_,rfl,rfl,SqL.of hn8,ZO (n:=p.1.toNat) (by omega) (Za3 (nAt p.1 e1 e2)),?_⟩;refine⟨_,rfl,_,rfl,tt,_,1,.int p.2,rfl,rfl,SqT.of ht8,rfl,nA,_,_,_,rfl,rfl,SqL.of hn8,ZO (n:=p.2.toNat) (by omega) (Za3 (nAt p.2 e3 e4)),(by show 2<=sizeLine;decide),fun pp hpp=>?_⟩;refine hSS _ _ ⟨s8.trans (Zz5 hpp),by have:=(Yy2.mp hz).1;omega,?_⟩;rw[YO,hz,YE];refine(hPw.same (Zz5 hpp)).snoc ⟨pp,rfl,?_⟩;dsimp only;rw[ee];exact Zz1
  rintro ws H8 ⟨s8,_,hPw⟩ la hla;rw[hzl,YG]at hPw;have s9:=Zz5 (o:=.lst ws) hla
  have hla9:(upd H8 la (.lst ws)) la=some (.lst ws):=Zz1;have hP9:=hPw.same s9
  have s79:=s8.trans s9;generalize upd H8 la (.lst ws)=H9 at *;have hGc:=ZX6 (f:=fun i=>nix F (mk (pms n.toNat (Zz8 ps Is)) i)) hG (Is++Os) hfk k1 kn
  intro x dx2 nx ndx nex;have t1:Same H9 (upd (upd H9 dx2 (.own x)) x (.ins t.A_Web dx2 [])):=ZT (Zz5 ndx) (by rw[Zc (Yy03 nex)];exact nx)
  refine⟨x,dx2,(F.length:Int),la,false,ws,_,by rw[Zz4];rfl,Zz1,fun o=>?_,hP9.same t1,hGc,fun H10 hV k10=>⟨rfl,?_⟩⟩
  ·exact SqL.of (by rw[Zc (Zb hla9 nx),Zc (Zb hla9 nx),Zc (Zb hla9 ndx)];exact hla9)
  have s10:Same H9 H10:=fun b o e=>k10 b o (t1 b o e) (Zb e nx);refine⟨x,_,_,rfl,hV,hGc,fun c H11 hc s11=>q c H11 (ZL13 hG hI hIO hfg hfk hgg (by omega) hc) (s05.trans (s57.trans (s79.trans (s10.trans s11))))⟩
def spZn(K:PySem.W.Frag)(C:Addr):Sp:=fun vs H Q _=>∃(w a:Addr) (n:Int) (ps:List (Int × Int)) (kd:Bool) (ns:List Int),vs=[.ref w,.ref a]/\WebAt C H w n ps/\Zu n ps/\SqK kd K H a (IL ns) /\
 ∀(b:Bool) (H':Hp),Same H H'->(b=true↔Zd n ps ns)->Q (.bl b) H'
theorem scZn:FnScope ["web","ties"] ["web","ties"] (Zz7 sZn):=⟨rfl,rfl,rfl,by decide +kernel,rfl,by decide +kernel,by decide +kernel⟩
theorem okZn (T:Txt K mg t):FnOk P w K mg base CX0 6 t.aZn t.dZn ["web","ties"] (spZn K t.A_Web):=by
 refine T.fZn.ok scZn (fun vs H Q E h=>?_) (fun cdv A outer s H vs Q E hr h=>?_)
 ·obtain⟨w,a,n,ps,kd,ns,rfl,_⟩:=h;rfl
 ·obtain⟨w,a,n,ps,kd,ns,rfl,hW,hG,hS,q⟩:=h;refine⟨_,(Zz6 (Zo (Zs7 (Za (okZc T) (hr.mono (by decide)) rfl T.mZc T.fZc.kp T.bZc .nil Zq (Zz0 (pv 0) (Zz0 (pv 1) Zz3))) (Zs7 (Zc2 Zd5 (Zl (Zk K) (by rfl) T.n_len Boot.«len» (Zz0 (pv 1) Zz3)) (Zj ZQ1 (ZL K (pv 0) rfl) Zz9) (Zr _)) (Zn9 (Za (okZh T) (hr.mono (by decide)) rfl T.mZh T.fZh.kp T.bZh .nil Zq (Zz0 (pv 0) (Zz0 (pv 1) Zz3)))))))),?_⟩;refine⟨_,rfl,_,rfl,w,a,n,ps,kd,ns,rfl,hW,hS,fun b hb=>⟨b,rfl,?_⟩⟩;refine itb (fun e=>?_) (fun e=>?_)
  ·have hI:=hb.mp e;obtain⟨dx,tl,xs,h1,h2,h3⟩:=id hW;refine⟨_,rfl,a,_,rfl,hS.or,_,rfl,w,_,dx,_,_,rfl,h1,T.cl_Web,T.n_Web_places,Zz31 _ _,_,_,rfl,rfl,rfl,_,rfl,?_⟩;rw[Zz4,ZB];refine itd2 (fun hl=>?_) (fun hl=>?_)
   ·refine⟨_,rfl,_,rfl,w,a,n,ps,kd,ns,rfl,hW,hG,hS,hI,fun b2 H' s hb2=>q b2 H' s ?_⟩;rw[hb2,Zq6 (by have:=hG.1;omega) (ZK hG hI.all)];exact⟨fun z=>⟨hI,hl,z⟩,fun z=>z.2.2⟩
   ·exact q false H (Same.refl H) ⟨fun z=>(nomatch z),fun z=>absurd z.2.1 hl⟩
  ·exact q false H (Same.refl H) ⟨fun z=>(nomatch z),fun z=>by rw[hb.mpr z.1]at e;cases e⟩
def spZo(K:PySem.W.Frag)(C:Addr):Sp:=fun vs H Q _=>∃(w a:Addr) (n:Int) (ps:List (Int × Int)) (kd:Bool) (ns:List Int),vs=[.ref w,.ref a]/\WebAt C H w n ps/\Zu n ps/\SqK kd K H a (IL ns) /\
 (Zd n ps ns->∀ H':Hp,Same H H'->Q .non H')/\(¬ Zd n ps ns->∀ H':Hp,Same H H'->False)
theorem scZo:FnScope ["web","tree"] ["web","tree"] (Zz7 sZo):=⟨rfl,rfl,rfl,by decide +kernel,rfl,by decide +kernel,by decide +kernel⟩
theorem okZo (T:Txt K mg t):FnOk P w K mg base CX0 7 t.aZo t.dZo ["web","tree"] (spZo K t.A_Web):=by
 refine T.fZo.ok scZo (fun vs H Q E h=>?_) (fun cdv A outer s H vs Q E hr h=>?_)
 ·obtain⟨w,a,n,ps,kd,ns,rfl,_⟩:=h;rfl
 ·obtain⟨w,a,n,ps,kd,ns,rfl,hW,hG,hS,q,qe⟩:=h;refine⟨_,(Zz6 (Zj1 (Zk3 (ZS5 (Za (okZn T) (hr.mono (by decide)) rfl T.mZn T.fZn.kp T.bZn .nil Zq (Zz0 (pv 0) (Zz0 (pv 1) Zz3)))))
   (Zz6 Zd1)
   Zs)),?_⟩
  refine⟨_,rfl,_,rfl,w,a,n,ps,kd,ns,rfl,hW,hG,hS,fun b H' s hb=>⟨_,rfl,?_⟩⟩;refine itnb (fun z=>?_) (fun z=>?_)
  ·exact q (hb.mp z) H' s
  ·exact qe (fun g=>by rw[hb.mpr g]at z;cases z) H' s
def spZp(K:PySem.W.Frag)(C:Addr):Sp:=fun vs H Q _=>∃(w a b:Addr) (n:Int) (ps:List (Int × Int)) (ka kb:Bool) (ns os:List Int),vs=[.ref w,.ref a,.ref b]/\WebAt C H w n ps/\Zu n ps/\SqK ka K H a (IL ns)/\SqK kb K H b (IL os)/\ns.length<=1000/\os.length<=1000/\(∀ z∈ns++os,0<=z/\z<(ps.length:Int)) /\
 (((grw n.toNat ps (ns++os)).take ns.length≠ns\/((grw n.toNat ps (ns++os)).length:Int)<n - 1)->∀ H':Hp,Same H H'->Q .non H') /\
 ((grw n.toNat ps (ns++os)).take ns.length=ns->¬ ((grw n.toNat ps (ns++os)).length:Int)<n - 1->∀(r:Addr) (ms:List Int) (H':Hp),ms.Perm (grw n.toNat ps (ns++os))->ms.Pairwise (·<=·)->Same H H'->H r=none->H' r=some (.tup (IL ms))->Q (.ref r) H')
theorem scZp:FnScope ["web","inside","order","marks","grown","tie","ends"] ["web","inside","order"] (Zz7 sZp):=⟨rfl,rfl,rfl,by decide +kernel,rfl,by decide +kernel,by decide +kernel⟩
theorem okZp (T:Txt K mg t):FnOk P w K mg base CX0 3 t.aZp t.dZp ["web","inside","order"] (spZp K t.A_Web):=by
 refine T.fZp.ok scZp (fun vs H Q E h=>?_) (fun cdv A outer s H vs Q E hr h=>?_)
 ·obtain⟨w,a,b,n,ps,ka,kb,ns,os,rfl,_⟩:=h;rfl
 ·obtain⟨w,a,b,n,ps,ka,kb,ns,os,rfl,hW,hG,hS,hS2,hnl,hol,hI,q0,q1⟩:=h;refine⟨_,(Zz2 (Zf (i:=3) scZp.nd rfl (Or.inl rfl) (Za (okZf T) (hr.mono (by decide)) rfl T.mZf T.fZf.kp T.bZf .nil Zq (Zz0 (pv 0) (Zz0 (ZN Zz3) Zz3))))
   (Zz2 (Zf (i:=4) scZp.nd rfl (Or.inl rfl) (Zz81 Zz3))
   (Zz2 (Ze1 YT rfl (ZU K (Zj Zg11 (Zt (ZS K) (by rfl) T.n_list Boot.«list» (Zz0 (pv 1) Zz3)) (Zt (ZS K) (by rfl) T.n_list Boot.«list» (Zz0 (pv 2) Zz3)))) (Ze (i:=5) scZp.nd rfl (Or.inl rfl))
   (Zz2 (Zf (i:=6) scZp.nd rfl (Or.inl rfl) (ZP (Zm K) (ZL K (pv 0) rfl) (pv 5) (fun _ _=>rfl)))
   (Zz6 (Zj1 (Zg ZZ5 (ZP (Zm K) (pv 3) (ZP (ZF K) (pv 6) Zz9 (fun _ _=>rfl)) (fun _ _=>rfl)) (ZP (Zm K) (pv 3) (ZP (ZF K) (pv 6) Zz9 (fun _ _=>rfl)) (fun _ _=>rfl)) (Zr _))
   (Zz2 (Zf (i:=3) scZp.nd rfl (Or.inl rfl) (Za (okZe T) (hr.mono (by decide)) rfl T.mZe T.fZe.kp T.bZe .nil Zq (Zz0 (pv 0) (Zz0 (pv 3) (Zz0 (ZN (Zz0 (pv 5) Zz3)) Zz3)))))
   (Zz6 (ZA (Zf1 K YB YR YQ ZG (pv 4) (Zz0 (pv 5) Zz3)))))
   Zs))))
   (Zz2 (Zj1 (PW.pt (ZI12 (Zg (Zp3 K (hu8 hr)) (Zb2 (Zz62 K) (pv 4) Zm3 (Zl3 (Zl (Zk K) (by rfl) T.n_len Boot.«len» (Zz0 (pv 1) Zz3)))) (Zt (ZS K) (by rfl) T.n_list Boot.«list» (Zz0 (pv 1) Zz3)) (Zr _)) (Ze9 (Zg Zz16 (Zl (Zk K) (by rfl) T.n_len Boot.«len» (Zz0 (pv 4) Zz3)) (Zj ZQ1 (ZL K (pv 0) rfl) Zz9) (Zr _)))))
   (Zz6 (Zo Zq7))
   Zs)
   (Zz6 (Zo (Zt (Zs1 K) (by rfl) T.n_tuple Boot.«tuple» (Zz0 (Zl (Zz64 K) (by rfl) T.n_sorted Boot.«sorted» (Zz0 (pv 4) Zz3)) Zz3)))))))),?_⟩
  obtain⟨g1,g2,g3,g4⟩:=id hG;have one:1<=sizeLine:=by decide
  refine⟨_,rfl,Yj _,fun r0 hr0=>?_⟩;have s0:=Zz5 (o:=.tup []) hr0
  refine⟨w,r0,n,ps,[],rfl,hW.same s0,hG,SqT.of Zz1,fun _ e=>(nomatch e),fun m H1 s1 hm0 hm1=>?_⟩;have s01:=s0.trans s1
  have hmf:=s0.free hm0;refine⟨Yj _,fun gl hgl=>?_⟩;have s2:=Zz5 (o:=.lst []) hgl
  have s02:=s01.trans s2;have hgf:=s01.free hgl
  refine⟨_,rfl,a,_,rfl,(hS.same s02).or,fun l1 hl1=>?_⟩;have s3:=Zz5 (o:=.lst (IL ns)) hl1
  have s03:=s02.trans s3;refine⟨_,rfl,b,_,rfl,(hS2.same s03).or,fun l2 hl2=>?_⟩;have s4:=Zz5 (o:=.lst (IL os)) hl2
  have s04:=s03.trans s4;refine⟨l1,l2,_,_,rfl,rfl,s4 _ _ Zz1,Zz1,Zg3 (by rw[Zz4,Zz4];omega),fun cl hcl=>?_⟩;have s5:=Zz5 (o:=.lst (IL ns++IL os)) hcl
  have s05:=s04.trans s5;have eI:IL ns++IL os=IL (ns++os):=(ZV2 _ _).symm
  have hgl5:=s5 _ _ (s4 _ _ (s3 _ _ (Zz1 (H:=H1) (a:=gl) (o:=.lst []))));have hm5:=s5 _ _ (s4 _ _ (s3 _ _ (s2 _ _ hm1)))
  have hcl5:=Zz1 (H:=upd (upd (upd H1 gl (.lst [])) l1 (.lst (IL ns))) l2 (.lst (IL os))) (a:=cl) (o:=.lst (IL ns++IL os));have ncg:cl≠gl:=fun e=>by rw[e]at hcl;exact absurd ((s4 _ _ (s3 _ _ (Zz1 (H:=H1) (a:=gl) (o:=.lst [])))).symm.trans hcl) (by simp)
  have nmg:m≠gl:=fun e=>by rw[e]at hm1;exact absurd (hm1.symm.trans hgl) (by simp)
  rw[eI]at s5 s05 hgl5 hm5 hcl5 ⊢;generalize upd (upd (upd (upd H1 gl (.lst [])) l1 (.lst (IL ns))) l2 (.lst (IL os))) cl (.lst (IL (ns++os)))=H5 at *;refine⟨cl,rfl,⟨_,SqL.of hcl5⟩,Zi2 (K:=K) (a:=cl) (xs:=IL (ns++os)) (fun i σ H2=>∃(mc:Addr) (v5 v6:Option V),σ=[some (.ref w),some (.ref a),some (.ref b),some (.ref mc),some (.ref gl),v5,v6]/\Same H H2/\mc≠gl /\
    H2 cl=some (.lst (IL (ns++os)))/\H2 mc=some (.lst (IL (pms n.toNat (Zz8 ps (grw n.toNat ps ((ns++os).take i))))))/\H2 gl=some (.lst (IL (grw n.toNat ps ((ns++os).take i)))))
   ⟨m,none,none,rfl,s05,nmg,hcl5,hm5,hgl5⟩ (fun i σ H2 _ ⟨_,_,_,_,_,_,e,_⟩=>SqL.of e) ?_ ?_⟩
  ·rintro i x σ H2 hi ⟨mc,v5,v6,rfl,s2,hne,hc2,hm2,hg2⟩;obtain⟨z,rfl,hz⟩:=ZW hi;obtain⟨z0,z1⟩:=hI z (Yy6 hz);have hIt:∀ y∈(ns++os).take i,0<=y/\y<(ps.length:Int):=fun y hy=>hI y (Y0R hy)
   have est:(ns++os).take (i+1)=(ns++os).take i++[z]:=by rw[YO,hz];rfl
   have eG:grw n.toNat ps ((ns++os).take (i+1))=gst n.toNat ps (grw n.toNat ps ((ns++os).take i)) z:=by rw[est,Zh1]
   have hin:=Zj5 hG hIt;have hgl14:=Zs8 hG hIt
   generalize grw n.toNat ps ((ns++os).take i)=G at *;obtain⟨dx,tl,xs,h1,h2,h3⟩:=hW.same s2;obtain⟨p,hp⟩:∃ p,ps[z.toNat]?=some p:=⟨_,Yy0 (by omega)⟩;obtain⟨v,hv,tt,rfl,htt⟩:=h3.2 z.toNat p hp;obtain⟨e1,e2,e3,e4⟩:=g4 p (Yy6 hp);have ed:Zw ps z=(p.1.toNat,p.2.toNat):=by unfold Zw;rw[getD_of hp]
   have hl:(pms n.toNat (Zz8 ps G)).length=n.toNat:=Zi _ _;have iA:atI (IL (pms n.toNat (Zz8 ps G))) p.1=some (.int (mk (pms n.toNat (Zz8 ps G)) p.1.toNat)):=ZO (n:=p.1.toNat) (by omega) (Za3 (ZO1 (by omega)))
   have iB:atI (IL (pms n.toNat (Zz8 ps G))) p.2=some (.int (mk (pms n.toNat (Zz8 ps G)) p.2.toNat)):=ZO (n:=p.2.toNat) (by omega) (Za3 (ZO1 (by omega)));have t0:atI ([.int p.1,.int p.2]:List V) 0=some (.int p.1):=rfl
   have t1:atI ([.int p.1,.int p.2]:List V) 1=some (.int p.2):=rfl;have key:mk (pms n.toNat (Zz8 ps G)) p.1.toNat=mk (pms n.toNat (Zz8 ps G)) p.2.toNat↔mk (lms n.toNat (Zz8 ps G)) (Zw ps z).1=mk (lms n.toNat (Zz8 ps G)) (Zw ps z).2:=by rw[ed,Zw2 hin (by omega) (by omega),ZQ hin (by omega) (by omega)]
   refine⟨_,rfl,w,_,dx,_,_,rfl,h1,T.cl_Web,T.n_Web_ties,Zl1 _ _,_,rfl,tl,xs,z,.ref tt,rfl,rfl,SqL.of h2,ZO (n:=z.toNat) (by omega) hv,?_⟩;refine⟨_,rfl,_,rfl,tt,_,0,_,rfl,rfl,SqT.of htt,t0,mc,_,p.1,_,rfl,rfl,SqL.of hm2,iA,_,rfl,_,rfl,tt,_,1,_,rfl,rfl,SqT.of htt,t1,mc,_,p.2,_,rfl,rfl,SqL.of hm2,iB,rfl,_,rfl,?_⟩;rw[ZB];refine itn2 (fun he=>?_) (fun he=>?_)
   ·refine⟨mc,_,_,rfl,s2,hne,hc2,?_,?_⟩
    ·rw[eG];unfold gst;rw[if_pos (key.mp he)];exact hm2
    ·rw[eG];unfold gst;rw[if_pos (key.mp he)];exact hg2
   ·have eG2:grw n.toNat ps ((ns++os).take (i+1))=G++[z]:=by rw[eG];unfold gst;rw[if_neg (fun e=>he (key.mpr e))]
    refine⟨_,rfl,_,rfl,_,rfl,one,fun p2 hp2=>?_⟩;have s6:=Zz5 (o:=.tup [.int z]) hp2
    refine⟨w,mc,p2,n,ps,_,true,[z],rfl,(hW.same s2).same s6,hG,s6 _ _ hm2,hl,SqT.of Zz1,fun y hy=>by rw[Yy1.mp hy];exact⟨z0,z1⟩,fun m' H7 s7 hf hm7=>?_⟩;have s67:=s6.trans s7
    have hg7:=s67 _ _ hg2;have hc7:=s67 _ _ hc2
    have nm':m'≠gl:=by
     rcases hf with rfl | hf
     ·exact hne
     ·exact fun e=>absurd ((s6 _ _ hg2).symm.trans (e ▸ hf)) (by simp)
    refine⟨_,rfl,.inl ⟨rfl,_,SqL.of hg7⟩,_,rfl,gl,_,_,rfl,rfl,hg7,Zn (by rw[Zz4];omega),?_⟩;refine⟨m',_,_,rfl,Zv hgf (s2.trans s67),nm',?_,?_,?_⟩
    ·rw[Zc ncg];exact hc7
    ·rw[Zc nm',hm7,eG2,Zz41,ZU5];rfl
    ·rw[Zz1,eG2,ZR]
  ·rintro σ H2 ⟨mc,v5,v6,rfl,s2,hne,hc2,hm2,hg2⟩;rw[Zz4,YG]at hg2;have hgl14:=Zs8 hG hI
   generalize grw n.toNat ps (ns++os)=G at *;refine⟨_,rfl,_,rfl,a,_,rfl,(hS.same s2).or,_,rfl,gl,_,rfl,SqL.of hg2,fun r1 hr1=>?_⟩;have ec:cutV (IL G) none (some ((IL ns).length:Int))=IL (G.take ns.length):=by rw[ZR6 (by omega),Yw,Zz4,ZH11]
   rw[ec];have s3:=Zz5 (o:=.lst (IL (G.take ns.length))) hr1
   refine⟨_,rfl,a,_,rfl,(hS.same (s2.trans s3)).or,fun r2 hr2=>?_⟩;have s4:=Zz5 (o:=.lst (IL ns)) hr2
   refine⟨1,_,r1,r2,rfl,rfl,by decide,Zz010 (SqL.of (s4 _ _ Zz1)) (SqL.of Zz1),_,rfl,?_⟩;have s24:=s2.trans (s3.trans s4)
   refine itn2 (fun he=>?_) (fun he=>?_)
   ·obtain⟨dx,tl,xs,h1,h2,h3⟩:=hW.same s24;have hg4:=s4 _ _ (s3 _ _ hg2)
    refine⟨_,rfl,gl,_,rfl,.inl (SqL.of hg4),_,rfl,w,_,dx,_,_,rfl,h1,T.cl_Web,T.n_Web_places,Zz31 _ _,_,_,rfl,rfl,_,_,rfl,rfl,_,rfl,?_⟩;rw[Zz4];refine itd2 (fun hc=>?_) (fun hc=>?_)
    ·exact q0 (.inr hc) _ s24
    ·refine⟨_,rfl,gl,G,rfl,SqL.of hg4,by omega,fun ms hp1 hp2 l hl=>?_⟩;have s5:=Zz5 (o:=.lst (IL ms)) hl
     refine⟨l,_,rfl,.inl ⟨SqL.of Zz1,fun r hr=>?_⟩⟩;exact q1 he hc r ms _ hp1 hp2 ((s24.trans s5).trans (Zz5 hr)) ((s24.trans s5).free hr) Zz1
   ·refine iteT ?_;exact q0 (.inl he) _ s24
def spZq(K:PySem.W.Frag)(C:Addr):Sp:=fun vs H Q _=>∃(w:Addr) (n:Int) (ps:List (Int × Int)),vs=[.ref w]/\WebAt C H w n ps/\Zu n ps /\
 (¬ ((grd n.toNat ps ps.length).length:Int)<n - 1->∀(r:Addr) (H':Hp),Same H H'->H' r=some (.tup (IL (grd n.toNat ps ps.length)))->Q (.ref r) H') /\
 (((grd n.toNat ps ps.length).length:Int)<n - 1->∀ H':Hp,Same H H'->False)
theorem scZq:FnScope ["web"] ["web"] (Zz7 sZq):=⟨rfl,rfl,rfl,by decide +kernel,rfl,by decide +kernel,by decide +kernel⟩
theorem okZq (T:Txt K mg t):FnOk P w K mg base CX0 7 t.aZq t.dZq ["web"] (spZq K t.A_Web):=by
 refine T.fZq.ok scZq (fun vs H Q E h=>?_) (fun cdv A outer s H vs Q E hr h=>?_)
 ·obtain⟨w,n,ps,rfl,_⟩:=h;rfl
 ·obtain⟨w,n,ps,rfl,hW,hG,q,q1⟩:=h;refine⟨_,(Zz2 (ZA (Za (okZi T) (hr.mono (by decide)) rfl T.mZi T.fZi.kp T.bZi .nil Zq (Zz0 (pv 0) Zz3)))
   (Zz6 (Zo (Za (okZp T) (hr.mono (by decide)) rfl T.mZp T.fZp.kp T.bZp .nil Zq (Zz0 (pv 0) (Zz0 (ZN Zz3) (Zz0 (Za (okZa T) (hr.mono (by decide)) rfl T.mZa T.fZa.kp T.bZa .nil Zq (Zz0 (pv 0) Zz3)) Zz3))))))),?_⟩
  have hall:∀ z∈rgL ps.length,0<=z/\z<(ps.length:Int):=fun z hz=>rgL_mem.mp hz;have eg:grw n.toNat ps (rgL ps.length)=grd n.toNat ps ps.length:=ZW2 _ _ _
  have hj:=Zs6 hG;refine⟨_,rfl,w,n,ps,rfl,hW,hG,fun hJ H1 s1=>?_,fun hJ H1 s1=>q1 (by rw[hj]at hJ;omega) H1 s1⟩;have hf:=hj.mp hJ
  refine⟨_,rfl,Yj _,fun r0 hr0=>?_⟩;have s0:=Zz5 (o:=.tup []) hr0
  have s10:=s1.trans s0;refine⟨_,rfl,w,n,ps,rfl,hW.same s10,by have:=hG.2.2.1;omega,fun r2 H2 s2 hr20 hr2=>?_⟩;refine⟨w,r0,r2,n,ps,true,true,[],rgL ps.length,rfl,(hW.same s10).same s2,hG,SqT.of (s2 _ _ Zz1),SqT.of hr2,Yj _,by rw[Zy];have:=hG.2.2.1;omega,hall,fun hx H3 s3=>?_,fun _ _ r3 ms H3 hp1 hp2 s3 hr30 hr3=>?_⟩
  ·rw[Y0L,eg]at hx;rcases hx with hx | hx
   ·exact absurd rfl hx
   ·exact absurd hx hf
  ·rw[Y0L,eg]at hp1;have e:ms=grd n.toNat ps ps.length:=Za5 hp1 hp2 ((Zv3 _).imp fun h=>by omega)
   rw[e]at hr3;exact q hf r3 H3 (s10.trans (s2.trans s3)) hr3
def spZr(K:PySem.W.Frag)(C:Addr):Sp:=fun vs H Q _=>∃(w a:Addr) (n:Int) (ps:List (Int × Int)) (kd:Bool) (ns:List Int) (z:Int),vs=[.ref w,.ref a,.int z]/\WebAt C H w n ps/\Zu n ps/\SqK kd K H a (IL ns)/\IsSet ps.length ns /\
 ∀(r:Addr) (H':Hp),Same H H'->H r=none->H' r=some (.tup (IL (unlike (lms n.toNat (Zz8 ps (wo ns z))) ps ps.length)))->Q (.ref r) H'
theorem scZr:FnScope ["web","tree","tie","marks"] ["web","tree","tie"] (Zz7 sZr):=⟨rfl,rfl,rfl,by decide +kernel,rfl,by decide +kernel,by decide +kernel⟩
theorem okZr (T:Txt K mg t):FnOk P w K mg base CX0 3 t.aZr t.dZr ["web","tree","tie"] (spZr K t.A_Web):=by
 refine T.fZr.ok scZr (fun vs H Q E h=>?_) (fun cdv A outer s H vs Q E hr h=>?_)
 ·obtain⟨w,a,n,ps,kd,ns,z,rfl,_⟩:=h;rfl
 ·obtain⟨w,a,n,ps,kd,ns,z,rfl,hW,hG,hS,hI,q⟩:=h;refine⟨_,(Zz2 (Zf (i:=3) scZr.nd rfl (Or.inr rfl) (Za (okZf T) (hr.mono (by decide)) rfl T.mZf T.fZf.kp T.bZf .nil Zq (Zz0 (pv 0) (Zz0 (Za (okZb T) (hr.mono (by decide)) rfl T.mZb T.fZb.kp T.bZb .nil Zq (Zz0 (pv 1) (Zz0 (pv 2) Zz3))) Zz3))))
   (Zz6 (Zo (Zt (Zs1 K) (by rfl) T.n_tuple Boot.«tuple» (Zz0 (Zc5 rfl (sc0:=Zz7 sZr) (N0:=["web","tree","tie","marks"]) (N':=["number","ends","marks"]) (o:=2) (fr:=[3]) ⟨rfl,by decide +kernel,by decide +kernel,by decide +kernel,rfl,by decide +kernel⟩ (Zw1 K rfl T.n_enumerate (Zz0 (ZL K (pv 0) rfl) Zz3)) (Zd2 (ZM (by decide) (ZM (by decide) Ze2))) (fun _ _ _ _=>(Zz71 (n:=2) K rfl (Zp (Ze (i:=0) (show List.Nodup (["number","ends","marks"]:List Str) by decide +kernel) rfl (Or.inl rfl)) (Zp (Ze (i:=1) (show List.Nodup (["number","ends","marks"]:List Str) by decide +kernel) rfl (Or.inl rfl)) Zz61)))) (fun _ _ _ _=>(Zz72 (Zg ZZ5 (ZP (Zm K) (pv 2) (ZP (ZF K) (pv 1) Zz9 (fun _ _=>rfl)) (fun _ _=>rfl)) (ZP (Zm K) (pv 2) (ZP (ZF K) (pv 1) Zz9 (fun _ _=>rfl)) (fun _ _=>rfl)) (Zr _)))) (fun _ _ _ _=>(pv 0))) Zz3))))),?_⟩
  obtain⟨g1,g2,g3,g4⟩:=id hG;have hln:=hI.len
  have hb:∀ y∈wo ns z,0<=y/\y<(ps.length:Int):=fun y hy=>hI.all y (wo_mem.mp hy).1;refine⟨_,rfl,_,rfl,_,rfl,a,kd,ns,z,rfl,hS,by omega,fun r1 H1 s1 hr0 hr1=>?_⟩;refine⟨w,r1,n,ps,wo ns z,rfl,hW.same s1,hG,SqT.of hr1,hb,fun m H2 s2 hm0 hm2=>?_⟩;have hin:=ZK hG hb
  have e0:=Zz85 (M:=pms n.toNat (Zz8 ps (wo ns z))) hG (Zi _ _) (ZI2 hin);have hl:(pms n.toNat (Zz8 ps (wo ns z))).length=n.toNat:=Zi _ _
  rw[<- e0]at q;generalize pms n.toNat (Zz8 ps (wo ns z))=M at *;have s12:=s1.trans s2
  obtain⟨dx,tl,xs,h1,h2,h3⟩:=hW.same s12;have hlx:=h3.1
  refine⟨_,rfl,w,_,dx,_,_,rfl,h1,T.cl_Web,T.n_Web_ties,Zl1 _ _,tl,rfl,⟨_,SqL.of h2⟩,Zr4 (K:=K) (a:=tl) (xs:=xs) (fun i ys H3=>Same H2 H3/\i<=xs.length/\ys=IL (unlike M ps i)) ⟨Same.refl _,Yj _,rfl⟩ (Zn (by omega))
   (fun i ys H3 _ ⟨e,_,ey⟩=>⟨SqL.of (e _ _ h2),by rw[ey,Zz4];exact Zz32 _ _ _⟩) ?_ ?_⟩
  ·rintro i x ys H3 pt hpt hi ⟨s3,hil,rfl⟩ S hSS;obtain⟨p,hpi,tt,rfl,htt⟩:=h3.at hi;obtain⟨e1,e2,e3,e4⟩:=g4 p (Yy6 hpi);have hil':i<xs.length:=(Yy2.mp hi).1
   have s4:Same H3 (upd H3 pt (.tup [.int i,.ref tt])):=Zz5 hpt;have s34:=s3.trans s4
   have htt4:=s34 _ _ htt;have hm4:=s34 _ _ hm2
   have ed:ps.getD i (0,0)=p:=getD_of hpi;have t0:atI ([.int p.1,.int p.2]:List V) 0=some (.int p.1):=rfl
   have t1:atI ([.int p.1,.int p.2]:List V) 1=some (.int p.2):=rfl;have iA:atI (IL M) p.1=some (.int (mk M p.1.toNat)):=ZO (n:=p.1.toNat) (by omega) (Za3 (ZO1 (by omega)))
   have iB:atI (IL M) p.2=some (.int (mk M p.2.toNat)):=ZO (n:=p.2.toNat) (by omega) (Za3 (ZO1 (by omega)));refine⟨pt,_,rfl,SqT.of Zz1,rfl,_,_,rfl,_,_,rfl,rfl,?_⟩;refine⟨_,rfl,_,rfl,tt,_,0,_,rfl,rfl,SqT.of htt4,t0,m,_,p.1,_,rfl,rfl,SqL.of hm4,iA,_,rfl,_,rfl,tt,_,1,_,rfl,rfl,SqT.of htt4,t1,m,_,p.2,_,rfl,rfl,SqL.of hm4,iB,rfl,_,rfl,?_⟩;rw[ZB];refine itn2 (fun he=>?_) (fun he=>?_)
   ·refine hSS _ _ ⟨s34,hil',?_⟩;rw[Zt2,ed,if_neg (by simpa using he),YS]
   ·refine⟨_,rfl,hSS _ _ ⟨s34,hil',?_⟩⟩;rw[Zt2,ed,if_pos he,ZR]
  ·rintro ys H3 ⟨s3,_,rfl⟩ p hp;rw[hlx];refine⟨p,_,rfl,.inl ⟨SqL.of Zz1,fun r hr=>?_⟩⟩;exact q r _ (s12.trans (s3.trans (ZT (Zz5 hp) hr))) ((s12.trans (s3.trans (Zz5 hp))).free hr) Zz1
def spZs(K:PySem.W.Frag)(C:Addr):Sp:=fun vs H Q _=>∃(w a:Addr) (n:Int) (ps:List (Int × Int)) (kd:Bool) (ns:List Int),vs=[.ref w,.ref a]/\WebAt C H w n ps/\Zu n ps/\SqK kd K H a (IL ns) /\
 (Zd n ps ns->∀(r:Addr) (xs:List V) (H':Hp),Same H H'->H r=none->H' r=some (.lst xs)->PairsV H' xs (exs n ps ns ns)->Q (.ref r) H') /\
 (¬ Zd n ps ns->∀ H':Hp,Same H H'->False)
theorem scZs:FnScope ["web","tree","exchanges","out"] ["web","tree"] (Zz7 sZs):=⟨rfl,rfl,rfl,by decide +kernel,rfl,by decide +kernel,by decide +kernel⟩
theorem okZs (T:Txt K mg t):FnOk P w K mg base CX0 8 t.aZs t.dZs ["web","tree"] (spZs K t.A_Web):=by
 refine T.fZs.ok scZs (fun vs H Q E h=>?_) (fun cdv A outer s H vs Q E hr h=>?_)
 ·obtain⟨w,a,n,ps,kd,ns,rfl,_⟩:=h;rfl
 ·obtain⟨w,a,n,ps,kd,ns,rfl,hW,hG,hS,q,q2⟩:=h;refine⟨_,(Zz2 (ZA (Za (okZo T) (hr.mono (by decide)) rfl T.mZo T.fZo.kp T.bZo .nil Zq (Zz0 (pv 0) (Zz0 (pv 1) Zz3))))
   (Zz2 (Zf (i:=2) scZs.nd rfl (Or.inl rfl) (Zz81 Zz3))
   (Zz2 (Ze1 YT rfl (ZN1 K (pv 1)) (Ze (i:=3) scZs.nd rfl (Or.inr rfl))
   (Zz6 (ZA (Zf1 K YB Y1N Y1M ZN2 (pv 2) (Zz0 (Zc5 rfl (sc0:=Zz7 sZs) (N0:=["web","tree","exchanges","out"]) (N':=["into","out"]) (o:=1) (fr:=[3]) ⟨rfl,by decide +kernel,by decide +kernel,by decide +kernel,rfl,by decide +kernel⟩ (Zx2 K (Za (okZb T) (hr.mono (by decide)) rfl T.mZb T.fZb.kp T.bZb .nil Zq (Zz0 (Za (okZr T) (hr.mono (by decide)) rfl T.mZr T.fZr.kp T.bZr .nil Zq (Zz0 (pv 0) (Zz0 (pv 1) (Zz0 (pv 3) Zz3)))) (Zz0 (pv 3) Zz3)))) (ZH (by decide)) (fun _ _ _ _=>(Ze (i:=0) (show List.Nodup (["into","out"]:List Str) by decide +kernel) rfl (Or.inl rfl))) (fun _ _ _ _=>ZZ) (fun _ _ _ _=>(ZN (Zz0 (pv 1) (Zz0 (pv 0) Zz3))))) Zz3)))))
   (Zz6 (Zo (pv 2)))))),?_⟩
  refine⟨_,rfl,_,rfl,w,a,n,ps,kd,ns,rfl,hW,hG,hS,fun hT H1 s1=>?_,q2⟩;have tl:ns.length<=20:=by have:=hT.2.1;have:=hG.2.1;omega
  have pl:ps.length<=30:=hG.2.2.1;refine⟨Yj _,fun l hl=>?_⟩;refine⟨_,rfl,a,rfl,Zx3 (k:=kd) (K:=K) (xs:=IL ns) (fun i σ H2=>∃(xs:List V) (v:Option V),σ=[some (.ref w),some (.ref a),some (.ref l),v]/\Same H1 H2/\H2 l=some (.lst xs)/\PairsV H2 xs (exs n ps ns (ns.take i))) ⟨[],none,rfl,Zz5 hl,Zz1,PairsV.nil⟩ (fun i σ H2 _ ⟨_,_,_,e,_,_⟩=>(hS.same s1).same e) ?_ ?_⟩
  ·rintro i x σ H2 hi ⟨xs,v,rfl,s2,hl2,hP⟩;obtain⟨o,rfl,ho⟩:=ZW hi;have s12:=s1.trans s2
   have hil':i<ns.length:=(Yy2.mp ho).1;have xl:xs.length<=600:=by
    rw[hP.1];have h1:=ZD6 (n:=n) (ps:=ps) (ts:=ns) (ns.take i)
    have h2:(ns.take i).length<=20:=by rw[Yz];omega
    have h3:ps.length * (ns.take i).length<=30 * 20:=Y1h pl h2;omega
   refine⟨_,rfl,(.inl ⟨rfl,_,SqL.of hl2⟩),?_⟩;refine⟨_,rfl,_,rfl,_,rfl,w,a,n,ps,kd,ns,o,rfl,hW.same s12,hG,hS.same s12,hT.1,fun r3 H3 s3 hr30 hr3=>?_⟩;have cl:(cutT n ps ns o).length<=30:=YF (Zz32 _ _ _) pl
   refine⟨_,rfl,r3,true,cutT n ps ns o,o,rfl,SqT.of hr3,by omega,fun r4 H4 s4 hr40 hr4=>?_⟩;have ew:(wo (cutT n ps ns o) o).length<=30:=YF (ZO8 _ _) cl
   have s24:=s3.trans s4;have hl4:=s24 _ _ hl2
   have hP4:=hP.same s24;refine⟨r4,rfl,⟨_,SqT.of hr4⟩,Yz7 (K:=K) (a:=r4) (xs:=IL (wo (cutT n ps ns o) o)) (fun i ys H5=>Same H4 H5/\i<=(wo (cutT n ps ns o) o).length/\PairsV H5 ys (((wo (cutT n ps ns o) o).take i).map fun z=>(o,z))) ⟨Same.refl _,Yj _,PairsV.nil⟩ (Zn (by rw[Zz4];omega))
    (fun i ys H5 hi ⟨e,hi2,ey⟩=>⟨SqT.of (e _ _ hr4),by rw[ey.1,Yb,Yz];omega⟩) ?_ ?_⟩
   ·rintro j y ys H5 hj ⟨s5,hjl,hP5⟩ S hSS;obtain⟨z,rfl,hz⟩:=ZW hj;have hj':j<(wo (cutT n ps ns o) o).length:=(Yy2.mp hz).1
    refine nm ?_;refine⟨_,rfl,_,rfl,(by show 2<=sizeLine;decide),fun p hp=>hSS _ _ ⟨s5.trans (Zz5 hp),hj',?_⟩⟩;rw[ZN8 hz];exact(hP5.same (Zz5 hp)).snoc ⟨p,rfl,Zz1⟩
   ·rintro ys H5 ⟨s5,_,hP5⟩ p hp;rw[Zz4,YG]at hP5;have s6:=s5.trans (Zz5 (o:=.lst ys) hp)
    have hl6:=s6 _ _ hl4;have yl:ys.length<=30:=by rw[hP5.1,Yb];exact ew
    refine⟨l,p,xs,ys,rfl,rfl,hl6,Zz1,Zg3 (by omega),?_⟩;refine⟨_,_,rfl,Zv hl ((s2.trans s24).trans s6),Zz1,?_⟩;rw[ZY9 ho];exact(((hP4.same s6).app (hP5.same (Zz5 hp)))).mut hl6
  ·rintro σ H2 ⟨xs,v,rfl,s2,hl2,hP⟩;rw[Zz4,YG]at hP;exact⟨_,rfl,q hT l xs H2 (s1.trans s2) (s1.free hl) hl2 hP⟩
def spZt(K:PySem.W.Frag)(C:Addr):Sp:=fun vs H Q _=>∃(w:Addr) (n:Int) (ps:List (Int × Int)) (z:Int),vs=[.ref w,.int z]/\WebAt C H w n ps/\Zu n ps/\-(10 ^ 70)<z/\z<10 ^ 70 /\
 (∀ c:Nat,TC n ps c->0<=z->z<(c:Int)->∀(U:List Int) (r:Addr) (H':Hp),Zd n ps U->Rk n ps U z.toNat->Same H H'->H' r=some (.tup (IL U))->Q (.ref r) H')/\((z<0\/∃ c:Nat,TC n ps c/\(c:Int)<=z)->∀ H':Hp,Same H H'->False)
theorem Zz512{K:PySem.W.Frag}{H:Hp}{a b:Addr}{l m:List Int}{Q:VK}(ha:H a=some (.tup (IL l)))(hb:H b=some (.tup (IL m)))(hl:l.length+m.length<=1000)(k:∀(r:Addr) (H':Hp),Same H H'->H' r=some (.tup (IL (l++m)))->Q (.ref r) H'):ZZ10 K (.ref a) (.ref b) H Q:=by
 refine⟨a,b,_,_,rfl,rfl,SqT.of ha,SqT.of hb,by rw[Zz4,Zz4];exact YF hl (by decide),fun e=>?_,fun _ e=>?_,fun _ _ p hp=>?_⟩
 ·have el:l=[]:=Y1G.mp e;rw[el,Y0L]at k;exact k b H (Same.refl _) hb
 ·have em:m=[]:=Y1G.mp e;rw[em,YS]at k;exact k a H (Same.refl _) ha
 ·refine k p _ (Zz5 hp) ?_;rw[Zz1,ZV2]
theorem scZt:FnScope ["web","number","inside","outside","tie","size"] ["web","number"] (Zz7 sZt):=⟨rfl,rfl,rfl,by decide +kernel,rfl,by decide +kernel,by decide +kernel⟩
theorem okZt (T:Txt K mg t):FnOk P w K mg base CX0 9 t.aZt t.dZt ["web","number"] (spZt K t.A_Web):=by
 refine T.fZt.ok scZt (fun vs H Q E h=>?_) (fun cdv A outer s H vs Q E hr h=>?_)
 ·obtain⟨w,n,ps,z,rfl,_⟩:=h;rfl
 ·obtain⟨w,n,ps,z,rfl,hW,hG,z0,z1,q,qe⟩:=h;refine⟨_,(Zz2 (Zj1 (Zk3 (ZO3 Zs10 Zz16 Zz9 (pv 1) (Za (okZl T) (hr.mono (by decide)) rfl T.mZl T.fZl.kp T.bZl .nil Zq (Zz0 (pv 0) Zz3))))
   (Zz6 Zd1)
   Zs)
   (Zz2 (Zf (i:=2) scZt.nd rfl (Or.inl rfl) (ZN Zz3))
   (Zz2 (Zf (i:=3) scZt.nd rfl (Or.inl rfl) (ZN Zz3))
   (Zz2 (Ze1 YT rfl (Zx2 K (Za (okZa T) (hr.mono (by decide)) rfl T.mZa T.fZa.kp T.bZa .nil Zq (Zz0 (pv 0) Zz3))) (Ze (i:=4) scZt.nd rfl (Or.inl rfl))
   (Zz2 (Zf (i:=5) scZt.nd rfl (Or.inl rfl) (Za (okZm T) (hr.mono (by decide)) rfl T.mZm T.fZm.kp T.bZm .nil Zq (Zz0 (pv 0) (Zz0 (Zj (Yz2 K) (pv 2) (ZN (Zz0 (pv 4) Zz3))) (Zz0 (pv 3) Zz3)))))
   (Zz6 (Zj1 (Zg Zz16 (pv 1) (pv 5) (Zr _))
   (Zz6 (Zf (i:=2) scZt.nd rfl (Or.inl rfl) (Zj (Yz2 K) (pv 2) (ZN (Zz0 (pv 4) Zz3)))))
   (Zz2 (ZK12 (i:=1) scZt.nd rfl (Or.inl rfl) (pv 5) ZM9)
   (Zz6 (Zf (i:=3) scZt.nd rfl (Or.inl rfl) (Zj (Yz2 K) (pv 3) (ZN (Zz0 (pv 4) Zz3))))))))))
   (Zz6 (Zo (pv 2))))))),?_⟩
  obtain⟨g1,g2,g3,g4⟩:=id hG;have one:1<=sizeLine:=by decide
  refine⟨_,rfl,_,_,rfl,rfl,_,rfl,?_⟩;refine itd2 (fun zp=>?_) (fun zn=>?_);rotate_left
  ·refine⟨_,rfl,?_⟩;refine iteT ?_;exact qe (.inl (by omega)) H (Same.refl _)
  refine⟨_,rfl,w,n,ps,rfl,hW,hG,fun c H1 hc s1=>⟨_,_,rfl,rfl,_,rfl,?_⟩⟩;refine itn2 (fun zc=>?_) (fun zc=>?_);rotate_left
  ·exact qe (.inr ⟨c,hc,by omega⟩) H1 s1
  refine⟨Yj _,fun iA hiA=>⟨Yj _,fun oA hoA=>?_⟩⟩;have u1:=Zz5 (o:=.tup (IL [])) hiA
  have u2:=Zz5 (o:=.tup (IL [])) hoA;have s2:=s1.trans (u1.trans u2)
  have hi2:=u2 _ _ (Zz1 (H:=H1) (a:=iA) (o:=.tup (IL [])));have ho2:=Zz1 (H:=upd H1 iA (.tup (IL []))) (a:=oA) (o:=.tup (IL []))
  refine nm ?_;dsimp only;refine⟨_,rfl,w,n,ps,rfl,hW.same s2,by omega,fun tA H3 s3 _ htA=>?_⟩;have s03:=s2.trans s3
  obtain⟨z',hz'⟩:∃ r:Nat,z=(r:Int):=⟨z.toNat,by omega⟩;refine⟨tA,rfl,⟨_,SqT.of htA⟩,ZD4 (K:=K) (a:=tA) (xs:=IL (rgL ps.length)) (fun i σ H4=>∃(Is Os:List Int) (iA oA:Addr) (r d b:Nat) (v4 v5:Option V),σ=[some (.ref w),some (.int r),some (.ref iA),some (.ref oA),v4,v5]/\Same H3 H4/\H4 iA=some (.tup (IL Is))/\SqT K H4 oA (IL Os)/\IsSet i Is/\IsSet i Os/\(∀ y,y∈Os↔(0<=y/\y<(i:Int))/\y∉Is)/\PC n ps Is Os d/\r<d/\BL n ps Is (i:Int) b/\b+r=z.toNat) ?_ ?_ ?_ ?_⟩
  ·exact⟨[],[],iA,oA,z.toNat,c,0,none,none,by rw[Int.toNat_of_nonneg zp];rfl,Same.refl _,s3 _ _ hi2,SqT.of (s3 _ _ ho2),IsSet.nil _,IsSet.nil _,fun y=>⟨fun h=>(by cases h),fun h=>(by omega)⟩,hc.pc,by omega,Zz712 rfl,by omega⟩
  ·intro i σ H4 _ h;obtain⟨_,_,_,_,_,_,_,_,_,_,s4,_⟩:=h;exact SqT.of (s4 _ _ htA)
  ·rintro i v σ H4 hi ⟨Is,Os,iA,oA,r,d,b,v4,v5,rfl,s4,hI4,hO4,hIs,hOs,hIO,hpc,hrd,hbl,hbr⟩;obtain⟨y,rfl,hy⟩:=ZW hi;have hi3:i<ps.length:=by have:=(Yy2.mp hi).1;rw[Zz4,Zy]at this;exact this
   have ey:y=(i:Int):=by rw[Ze8 hi3]at hy;exact(Yc hy).symm
   subst ey;have l1:=hIs.len
   have l2:=hOs.len;have s04:=s03.trans s4
   refine nm ?_;refine⟨_,rfl,_,rfl,_,rfl,one,fun tp htp=>?_⟩;have v1:=Zz5 (o:=.tup (IL [(i:Int)])) htp
   refine Zz27 (l:=Is) (m:=[(i:Int)]) (SqT.of (v1 _ _ hI4)) (SqT.of Zz1) (by show _+1<=_;omega) fun jA H5 s5 hj5=>?_;have s45:=v1.trans s5
   have hIi:IsSet ps.length (Is++[(i:Int)]):=by
    have:=hIs.snoc
    exact isSet_iff.mpr ⟨fun y hy=>by have:=this.all y hy;omega,(isSet_iff.mp this).2⟩
   refine⟨_,rfl,w,jA,oA,n,ps,Is++[(i:Int)],Os,rfl,hW.same (s04.trans s45),hG,hj5,ZY s45 hO4,hIi,by omega,fun y h1 h2=>?_,fun c1 H6 hc1 s6=>?_⟩
   ·obtain⟨o1,o2⟩:=(hIO y).mp h2;rcases Yy9.mp h1 with e | e
    ·exact o2 e
    ·have:=Yy1.mp e
     omega
   have s46:=s45.trans s6;refine nm ?_;dsimp only;refine⟨_,rfl,_,rfl,_,_,rfl,rfl,_,rfl,?_⟩;obtain⟨c2,hc2⟩:=ZN13 (Is:=Is) (Os:=(i:Int) :: Os) hc;have hs:=hpc.uniq (Zq9 (hc1.congr (fun y=>by rw[Yy9,Yy1,Yh];exact Or.comm) fun y=>Iff.rfl) hc2)
   have s36:=s4.trans s46;refine itd2 (fun hlt=>?_) (fun hge=>?_)
   ·refine⟨_,rfl,_,rfl,one,fun tq htq=>?_⟩;have x1:=Zz5 (o:=.tup (IL [(i:Int)])) htq
    refine Zz512 (l:=Is) (m:=[(i:Int)]) (x1 _ _ (s46 _ _ hI4)) Zz1 (by show _+1<=_;omega) fun kA H7 s7 hk7=>?_;have s67:=x1.trans s7
    refine⟨Is++[(i:Int)],Os,kA,oA,r,c1,b,_,_,rfl,s36.trans s67,hk7,ZY (s46.trans s67) hO4,hIs.snoc,hOs.up,fun y=>?_,hc1,by omega,Zz214 hIs hbl,hbr⟩;rw[hIO,Yy9,Yy1];constructor
    ·rintro⟨a1,a2⟩;exact⟨by omega,fun q=>q.elim a2 fun e=>by omega⟩
    ·rintro⟨a1,a2⟩;exact⟨by have:y≠(i:Int):=fun e=>a2 (.inr e);omega,fun q=>a2 (.inl q)⟩
   ·refine⟨_,rfl,_,rfl,r,c1,rfl,rfl,?_⟩;refine⟨_,rfl,_,rfl,one,fun tq htq=>?_⟩;have x1:=Zz5 (o:=.tup (IL [(i:Int)])) htq
    refine Zz27 (l:=Os) (m:=[(i:Int)]) (ZY x1 (ZY s46 hO4)) (SqT.of Zz1) (by show _+1<=_;omega) fun kA H7 s7 hk7=>?_;have s67:=x1.trans s7
    have hIn:(i:Int)∉Is:=fun q=>by have:=hIs.all _ q;omega
    refine⟨Is,Os++[(i:Int)],iA,kA,r - c1,c2,b+c1,some (.int (i:Int)),some (.int (c1:Int)),?_,s36.trans s67,(s46.trans s67) _ _ hI4,hk7,hIs.up,hOs.snoc,fun y=>?_,hc2.congr (fun y=>Iff.rfl) fun y=>by rw[Yy9,Yy1,Yh];exact Or.comm,by omega,Zg13 hi3 hIs hIO hbl hc1,by omega⟩
    ·have e:(r:Int) - (c1:Int)=((r - c1:Nat):Int):=by omega
     rw[<- e];rfl
    ·rw[Yy9,Yy1,hIO];constructor
     ·rintro(⟨a1,a2⟩ | e)
      ·exact⟨by omega,a2⟩
      ·rw[e];exact⟨by omega,hIn⟩
     ·rintro⟨a1,a2⟩;by_cases e:y=(i:Int)
      ·exact .inr e
      ·exact .inl ⟨by omega,a2⟩
  ·rintro σ H4 ⟨Is,Os,iA,oA,r,d,b,v4,v5,rfl,s4,hI4,hO4,hIs,hOs,hIO,hpc,hrd,hbl,hbr⟩;rw[Zz4,Zy]at hIs hOs hIO hbl;obtain⟨e1,e2,e3⟩:=Zh13 hIs hIO hbl hpc hrd;refine⟨_,rfl,q c hc zp zc Is iA H4 e1 ?_ (s03.trans s4) hI4⟩;rw[<- hbr,e3];exact e2
def smW(ls ns:List Int):Int:=(ns.map fun z=>ls.getD z.toNat 0).sum
def spZu(K:PySem.W.Frag)(C:Addr):Sp:=fun vs H Q _=>∃(w a b:Addr) (n:Int) (ps:List (Int × Int)) (kd ke:Bool) (ls ns:List Int),vs=[.ref w,.ref a,.ref b]/\WebAt C H w n ps/\ps.length<=30/\SqK kd K H a (IL ls)/\SqK ke K H b (IL ns) /\
 ls.length=ps.length/\IsSet ps.length ns/\∀ H':Hp,Same H H'->Q (.int (smW ls ns)) H'
theorem scZu:FnScope ["web","lengths","ties"] ["web","lengths","ties"] (Zz7 sZu):=⟨rfl,rfl,rfl,by decide +kernel,rfl,by decide +kernel,by decide +kernel⟩
theorem okZu (T:Txt K mg t):FnOk P w K mg base CX0 4 t.aZu t.dZu ["web","lengths","ties"] (spZu K t.A_Web):=by
 refine T.fZu.ok scZu (fun vs H Q E h=>?_) (fun cdv A outer s H vs Q E hr h=>?_)
 ·obtain⟨w,a,b,n,ps,kd,ke,ls,ns,rfl,_⟩:=h;rfl
 ·obtain⟨w,a,b,n,ps,kd,ke,ls,ns,rfl,hW,p30,hA,hB,hl,hI,q⟩:=h;refine⟨_,(Zz2 (ZA (Za (okZ9 T) (hr.mono (by decide)) rfl T.mZ9 T.fZ9.kp T.bZ9 .nil Zq (Zz0 (pv 0) (Zz0 (pv 1) Zz3))))
   (Zz6 (Zo (Zl (ZW4 K rfl) (by rfl) T.n_sum Boot.«sum» (Zz0 (Zc5 rfl (sc0:=Zz7 sZu) (N0:=["web","lengths","ties"]) (N':=["tie","lengths"]) (o:=1) (fr:=[1]) ⟨rfl,by decide +kernel,by decide +kernel,by decide +kernel,rfl,by decide +kernel⟩ (Zx2 K (Za (okZd T) (hr.mono (by decide)) rfl T.mZd T.fZd.kp T.bZd .nil Zq (Zz0 (pv 0) (Zz0 (pv 2) Zz3)))) (ZH (by decide)) (fun _ _ _ _=>(Ze (i:=0) (show List.Nodup (["tie","lengths"]:List Str) by decide +kernel) rfl (Or.inl rfl))) (fun _ _ _ _=>ZZ) (fun _ _ _ _=>(ZP (Zt4 K) (pv 1) (pv 0) (fun _ _=>rfl)))) Zz3))))),?_⟩
  refine⟨_,rfl,_,rfl,w,a,n,ps,kd,ls,rfl,hW,hA,fun _=>?_,fun h=>absurd hl h⟩;refine⟨_,rfl,_,rfl,w,b,n,ps,ke,ns,rfl,hW,hB,hI,fun r H1 s1 hr=>?_⟩;have hms:=isSet_iff.mp hI
  have hlen:=hI.len;refine⟨r,rfl,⟨_,hr⟩,Yz7 (K:=K) (a:=r) (xs:=IL ns) (fun i ws H2=>H2=H1/\ws=IL ((ns.take i).map fun z=>ls.getD z.toNat 0)/\i<=ns.length) ⟨rfl,rfl,Yj _⟩ (Zn (by rw[Zz4];omega)) (fun i ws H2 hi ⟨e,ew,hi2⟩=>⟨e ▸ hr,by rw[ew,Zz4,Yb,Yz];omega⟩) ?_ ?_⟩
  ·rintro i v ws H2 hi ⟨rfl,rfl,hil⟩ S hSS;obtain⟨z,rfl,hz⟩:=ZW hi;obtain⟨z0,z1⟩:=hms.1 z (Yy6 hz);obtain⟨y,hy⟩:∃ y,ls[z.toNat]?=some y:=⟨_,Yy0 (by omega)⟩;refine nm ?_;refine⟨_,rfl,_,rfl,kd,a,_,_,.int y,rfl,rfl,hA.same s1,ZO (n:=z.toNat) (by omega) (Za3 hy),?_⟩;refine hSS _ _ ⟨rfl,?_,(Yy2.mp hz).1⟩;have e:ls.getD z.toNat 0=y:=getD_of hy
   rw[YO,hz,YE,<- e];exact(ZR _ _).symm
  ·rintro ws H2 ⟨rfl,rfl,_⟩ lA hlA;refine⟨lA,_,rfl,SqL.of Zz1,?_⟩;rw[Zz4,YG];exact q _ (s1.trans (Zz5 hlA))
def spZv(K:PySem.W.Frag)(C:Addr):Sp:=fun vs H Q _=>∃(w b:Addr) (n:Int) (ps:List (Int × Int)) (ls:List Int),vs=[.ref w,.ref b]/\WebAt C H w n ps/\Zu n ps/\SqL K H b (IL ls)/\ls.length=ps.length/\∀(w':Addr) (H':Hp),Same H H'->WebAt C H' w' n (cwT n.toNat ps ls)->Q (.ref w') H'
theorem Zz313{xs:List V}{i:Int}(h0:0<=i)(h1:i<(xs.length:Int)):ixN xs.length i=some i.toNat:=by unfold ixN;rw[if_pos h0,if_pos (by omega)]
theorem scZv:FnScope ["web","lengths","made","marks","length","level","merged","spots","tie","ends"] ["web","lengths"] (Zz7 sZv):=⟨rfl,rfl,rfl,by decide +kernel,rfl,by decide +kernel,by decide +kernel⟩
theorem okZv (T:Txt K mg t):FnOk P w K mg base CX0 4 t.aZv t.dZv ["web","lengths"] (spZv K t.A_Web):=by
 refine T.fZv.ok scZv (fun vs H Q E h=>?_) (fun cdv A outer s H vs Q E hr h=>?_)
 ·obtain⟨w,b,n,ps,ls,rfl,_⟩:=h;rfl
 ·obtain⟨w,b,n,ps,ls,rfl,hW,hG,hS,hl,q⟩:=h;refine⟨_,(Zz2 (ZA (Za (okZ9 T) (hr.mono (by decide)) rfl T.mZ9 T.fZ9.kp T.bZ9 .nil Zq (Zz0 (pv 0) (Zz0 (pv 1) Zz3))))
   (Zz2 (Zf (i:=2) scZv.nd rfl (Or.inl rfl) (Zt (ZS K) (by rfl) T.n_list Boot.«list» (Zz0 (ZL K (pv 0) rfl) Zz3)))
   (Zz2 (Zf (i:=3) scZv.nd rfl (Or.inl rfl) (Za (okZf T) (hr.mono (by decide)) rfl T.mZf T.fZf.kp T.bZf .nil Zq (Zz0 (pv 0) (Zz0 (ZN Zz3) Zz3))))
   (Zz2 (Ze1 YT rfl (ZU K (Za2 K rfl rfl T.n_sorted rfl T.n_set (Zz0 (pv 1) Zz3))) (Ze (i:=4) scZv.nd rfl (Or.inr rfl))
   (Zz2 (Zn7 (i:=5) rfl scZv.nd rfl rfl (sc0:=Zz7 sZv) (N0:=["web","lengths","made","marks","length","level","merged","spots","tie","ends"]) (N':=["tie","own","length"]) (o:=2) (fr:=[4]) ⟨rfl,by decide +kernel,by decide +kernel,by decide +kernel,rfl,by decide +kernel⟩ (Zw1 K rfl T.n_enumerate (Zz0 (pv 1) Zz3)) (Zd2 (ZM (by decide) (ZM (by decide) Ze2))) (fun _ _ _ _=>(Zz71 (n:=2) K rfl (Zp (Ze (i:=0) (show List.Nodup (["tie","own","length"]:List Str) by decide +kernel) rfl (Or.inl rfl)) (Zp (Ze (i:=1) (show List.Nodup (["tie","own","length"]:List Str) by decide +kernel) rfl (Or.inl rfl)) Zz61)))) (fun _ _ _ _=>(Zz72 (Zg Zd5 (pv 1) (pv 2) (Zr _)))) (fun _ _ _ _=>(pv 0)))
   (Zz2 (Zf (i:=6) scZv.nd rfl (Or.inl rfl) (Za (okZe T) (hr.mono (by decide)) rfl T.mZe T.fZe.kp T.bZe .nil Zq (Zz0 (pv 0) (Zz0 (pv 3) (Zz0 (pv 5) Zz3)))))
   (Zz2 (Zn7 (i:=7) rfl scZv.nd rfl rfl (sc0:=Zz7 sZv) (N0:=["web","lengths","made","marks","length","level","merged","spots","tie","ends"]) (N':=["mark","later"]) (o:=2) (fr:=[]) ⟨rfl,by decide +kernel,by decide +kernel,by decide +kernel,rfl,by decide +kernel⟩ (Zm9 K rfl T.n_zip (Zz0 (pv 3) (Zz0 (pv 6) Zz3))) (Zd2 (ZM (by decide) (ZM (by decide) Ze2))) (fun _ _ _ _=>(Zz71 (n:=2) K rfl (Zp (Ze (i:=0) (show List.Nodup (["mark","later"]:List Str) by decide +kernel) rfl (Or.inl rfl)) (Zp (Ze (i:=1) (show List.Nodup (["mark","later"]:List Str) by decide +kernel) rfl (Or.inl rfl)) Zz61)))) (fun _ _ _ _=>ZZ) (fun _ _ _ _=>(ZY5 (Zg Zd5 (pv 0) (pv 1) (Zr _)) Zz9 (pv 0))))
   (Zz2 (Ze1 YT rfl (ZU K (pv 5)) (Ze (i:=8) scZv.nd rfl (Or.inl rfl))
   (Zz2 (Zf (i:=9) scZv.nd rfl (Or.inl rfl) (ZP (Zm K) (ZL K (pv 0) rfl) (pv 8) (fun _ _=>rfl)))
   (Zz6 (Zi9 (ZN (Zz0 (ZP (Zm K) (pv 7) (ZP (ZF K) (pv 9) Zz9 (fun _ _=>rfl)) (fun _ _=>rfl)) (Zz0 (ZP (Zm K) (pv 7) (ZP (ZF K) (pv 9) Zz9 (fun _ _=>rfl)) (fun _ _=>rfl)) Zz3))) (Zz511 (pv 2) (pv 8) ZG1)))))
   (Zz6 (Zf (i:=3) scZv.nd rfl (Or.inl rfl) (pv 6))))))))
   (Zz6 (Zo (ZX5 T.k_Web (okZ8 T) (hr.mono (by decide)) rfl T.c_Web T.bZ8 .nil Zq (Zz0 (ZL K (pv 0) rfl) (Zz0 (pv 2) Zz3))))))))),?_⟩
  obtain⟨g1,g2,g3,g4⟩:=id hG;obtain⟨dx,tl,xs,h1,h2,h3⟩:=id hW;have hxl:=h3.1
  refine⟨_,rfl,_,rfl,w,b,n,ps,false,ls,rfl,hW,hS,fun _=>?_,fun h=>absurd hl h⟩;refine⟨_,rfl,w,_,dx,_,_,rfl,h1,T.cl_Web,T.n_Web_ties,Zl1 _ _,tl,xs,rfl,.inl (SqL.of h2),fun md hmd=>?_⟩;have u1:=Zz5 (o:=.lst xs) hmd
  have m1:=Zz1 (H:=H) (a:=md) (o:=.lst xs);generalize upd H md (.lst xs)=H1 at *;refine nm ?_;dsimp only;refine⟨_,rfl,Yj _,fun t0 ht0=>?_⟩;have u2:=Zz5 (o:=.tup []) ht0
  refine⟨w,t0,n,ps,[],rfl,hW.same (u1.trans u2),hG,SqT.of Zz1,fun z hz=>(by cases hz),fun m0 H2 s2 hm0 hm2=>?_⟩;have u3:=u2.trans s2
  have md0:m0≠md:=Yy03 (Zb (u2 _ _ m1) hm0);have m2:=u3 _ _ m1
  have t2:=u1.trans u3;have hmd0:H md=none:=hmd
  refine nm ?_;dsimp only;refine⟨_,rfl,b,ls,rfl,t2.seq hS,by omega,fun Ls hLa hLm lA hlA=>?_⟩;have u4:=Zz5 (o:=.lst (IL Ls)) hlA
  have lmd:lA≠md:=Yy03 (Zb m2 hlA);have hl4:=Zz1 (H:=H2) (a:=lA) (o:=.lst (IL Ls))
  have m4:=u4 _ _ m2;have hm4:=u4 _ _ hm2
  have t4:=t2.trans u4;show ∃ _,_
  refine⟨lA,rfl,⟨_,SqL.of hl4⟩,?_⟩;generalize upd H2 lA (.lst (IL Ls))=H4 at *;refine Zi2 (K:=K) (a:=lA) (xs:=IL Ls) (fun j σ H5=>∃(m:Addr) (S:List Int) (ys:List V) (v4 v5 v6 v7 v8 v9:Option V),σ=[some (.ref w),some (.ref b),some (.ref md),some (.ref m),v4,v5,v6,v7,v8,v9]/\Same H H5/\m≠md/\H5 m=some (.lst (IL (pms n.toNat (Zz8 ps S))))/\(∀ z,z∈S↔(0<=z/\z<(ps.length:Int))/\lnz ls z∈Ls.take j)/\H5 md=some (.lst ys)/\PairsV H5 ys (mdT n.toNat ps ls fun i=>ls.getD i 0∈Ls.take j)/\H5 lA=some (.lst (IL Ls)))
   ⟨m0,[],xs,none,none,none,none,none,none,rfl,t4,md0,hm4,fun z=>⟨fun h=>(by cases h),fun h=>(by cases h.2)⟩,m4,(by rw[Zw9 fun i _ h=>(by cases h)];exact h3.same t4),hl4⟩ (fun j σ H5 _ h=>by obtain⟨_,_,_,_,_,_,_,_,_,_,_,_,_,_,_,_,e⟩:=h;exact SqL.of e) ?_ ?_
  ·rintro j v σ H5 hj ⟨m,S,ys,v4,v5,v6,v7,v8,v9,rfl,s5,mmd,hm5,hSm,hy5,hY5,hl5⟩;obtain⟨x,rfl,hx⟩:=ZW hj;refine nm ?_;dsimp only;refine⟨_,rfl,b,rfl,⟨_,s5.seq hS⟩,Zr4 (K:=K) (a:=b) (xs:=IL ls) (fun i zs H6=>Same H5 H6/\zs=IL (lvl ls x i)) ⟨Same.refl _,rfl⟩ (Zn (by rw[Zz4];omega)) (fun i zs H6 hi ⟨e,ez⟩=>⟨(s5.trans e).seq hS,by rw[ez,Zz4];exact(Zj8 ls x i).len⟩) ?_ ?_⟩
   ·rintro i v zs H6 pt hpt hi ⟨s6,rfl⟩ SS hSS;obtain⟨y,rfl,hy⟩:=ZW hi;have s7:=Zz5 (o:=.tup [.int i,.int y]) hpt
    refine⟨pt,_,rfl,SqT.of Zz1,rfl,_,_,rfl,_,_,rfl,rfl,?_⟩;have s67:=s6.trans s7
    have ey:ls.getD i 0=y:=getD_of hy;refine⟨_,rfl,_,rfl,rfl,_,rfl,?_⟩;rw[ZB];refine itd2 (fun he=>?_) (fun he=>?_)
    ·refine⟨_,rfl,hSS _ _ ⟨s67,?_⟩⟩;rw[Ze6,if_pos (ey.trans he)];exact(ZR ..).symm
    ·refine hSS _ _ ⟨s67,?_⟩;rw[Ze6,if_neg (fun h=>he (ey.symm.trans h)),YS]
   rintro zs H6 ⟨s6,rfl⟩ lv hlv;rw[Zz4,hl];have s7:=Zz5 (o:=.lst (IL (lvl ls x ps.length))) hlv
   have hv7:=Zz1 (H:=H6) (a:=lv) (o:=.lst (IL (lvl ls x ps.length)));have hy6:=s6 _ _ hy5
   have lvmd:lv≠md:=Yy03 (Zb hy6 hlv);have s57:=s6.trans s7
   generalize upd H6 lv (.lst (IL (lvl ls x ps.length)))=H7 at *;refine nm ?_;dsimp only;obtain⟨up1,up2,up3⟩:=Zx9 hG hl hLa hLm hx hSm;have at1:=Yz9 hG hl hLa hLm hx hSm
   refine⟨_,rfl,_,rfl,_,rfl,w,m,lv,n,ps,_,false,lvl ls x ps.length,rfl,(hW.same s5).same s57,hG,s57 _ _ hm5,Zi _ _,SqL.of hv7,(Zj8 ls x ps.length).all,fun m' H8 s8 hm' hm8=>?_⟩;rw[up1]at hm8;have hy7:=s57 _ _ hy5
   have hy8:=s8 _ _ hy7;have m'md:m'≠md:=by
    rcases hm' with e | e
    ·rw[e];exact mmd
    ·exact Yy03 (Zb hy7 e)
   have s58:=s57.trans s8;have hm58:=s58 _ _ hm5
   refine nm ?_;dsimp only;refine⟨_,rfl,_,rfl,m,m',rfl,⟨_,_,SqL.of hm58,SqL.of hm8⟩,Zw11 (K:=K) (a:=m) (b:=m') (xs:=IL (pms n.toNat (Zz8 ps S))) (ys:=IL (pms n.toNat (Zz8 ps (S++lvl ls x ps.length)))) (fun i zs H9=>Same H8 H9/\i<=n.toNat/\zs=IL ((List.range i).map (spt n.toNat ps ls x))) ⟨Same.refl _,Yj _,rfl⟩ (by rw[Zz4,Zz4,Zi,Zi]) (Zn (by rw[Zz4,Zi];omega))
    (fun i zs H9 hi ⟨e,hi2,ez⟩=>⟨SqL.of (e _ _ hm58),SqL.of (e _ _ hm8),by rw[ez,Zz4,Yb,YX];exact Yy7 _⟩) ?_ ?_⟩
   ·rintro i u v zs H9 pt hpt hu hv ⟨s9,hil,rfl⟩ SS hSS;obtain⟨a1,rfl,ha1⟩:=ZW hu;obtain⟨b1,rfl,hb1⟩:=ZW hv;have hil':i<n.toNat:=by have:=(Yy2.mp ha1).1;rw[Zi]at this;exact this
    have s10:=Zz5 (o:=.tup [.int a1,.int b1]) hpt;refine⟨pt,_,rfl,SqT.of Zz1,rfl,_,_,rfl,_,_,rfl,rfl,?_⟩;have ea:mk (mA n.toNat ps ls x) i=a1:=by rw[<- at1];unfold mk;exact getD_of ha1
    have eb:mk (mB n.toNat ps ls x) i=b1:=by rw[<- up2];unfold mk;exact getD_of hb1
    have es:∀ y:Int,(if a1=b1 then 0 else a1)=y->IL ((List.range i).map (spt n.toNat ps ls x))++[V.int y]=IL ((List.range (i+1)).map (spt n.toNat ps ls x)):=fun y hy=>by
     rw[Y0W,YE];show _=IL (_++[spt n.toNat ps ls x i])
     unfold spt;rw[ea,eb,hy];exact(ZR ..).symm
    refine⟨_,rfl,_,rfl,rfl,_,rfl,?_⟩;rw[ZB];refine itd2 (fun he=>?_) (fun he=>?_)
    ·exact hSS _ _ ⟨s9.trans s10,hil',es 0 (if_pos he)⟩
    ·exact⟨_,rfl,hSS _ _ ⟨s9.trans s10,hil',es a1 (if_neg he)⟩⟩
   rintro zs H9 ⟨s9,_,rfl⟩ sp hsp;rw[Zz4,Zi];have s10:=Zz5 (o:=.lst (IL ((List.range n.toNat).map (spt n.toNat ps ls x)))) hsp
   have hsp10:=Zz1 (H:=H9) (a:=sp) (o:=.lst (IL ((List.range n.toNat).map (spt n.toNat ps ls x))));have hy9:=s9 _ _ hy8
   have spmd:sp≠md:=Yy03 (Zb hy9 hsp);have s510:=s58.trans (s9.trans s10)
   have s810:=s9.trans s10;generalize upd H9 sp (.lst (IL ((List.range n.toNat).map (spt n.toNat ps ls x))))=H10 at *;have hm10:=s810 _ _ hm8
   have hv10:=s810 _ _ (s8 _ _ hv7);have hy10:=s810 _ _ hy8
   have hY10:=hY5.same s510;have hl10:=s510 _ _ hl5
   have t10:=s5.trans s510;refine nm ?_;dsimp only;refine⟨_,rfl,lv,rfl,⟨_,SqL.of hv10⟩,Zi2 (K:=K) (a:=lv) (xs:=IL (lvl ls x ps.length)) (fun k σ H11=>∃(ys:List V) (v8 v9:Option V),σ=[some (.ref w),some (.ref b),some (.ref md),some (.ref m),some (.int x),some (.ref lv),some (.ref m'),some (.ref sp),v8,v9]/\(∀ a o,a≠md->H10 a=some o->H11 a=some o)/\H11 md=some (.lst ys)/\PairsV H11 ys (mdT n.toNat ps ls fun i=>ls.getD i 0∈Ls.take j\/(i:Int)∈(lvl ls x ps.length).take k)) ⟨ys,_,_,rfl,fun _ _ _ h=>h,hy10,(by rw[Zn4 (q:=fun i=>ls.getD i 0∈Ls.take j) fun i _=>⟨fun h=>h.elim id fun h=>(by cases h),.inl⟩];exact hY10)⟩ (fun k σ H11 _ ⟨_,_,_,_,e,_⟩=>SqL.of (e _ _ lvmd hv10)) ?_ ?_⟩
   ·rintro k v σ H11 hk ⟨ys,v8,v9,rfl,kp,hy11,hY11⟩;obtain⟨z,rfl,hz⟩:=ZW hk;obtain⟨zb,zl⟩:=lvl_mem.mp (Yy6 hz);have t11:Same H H11:=fun a o e=>kp a o (Zb e hmd0) (t10 a o e)
    obtain⟨p,hp⟩:∃ p,ps[z.toNat]?=some p:=⟨_,Yy0 (by omega)⟩;obtain⟨vv,hvv,tt,rfl,htt⟩:=h3.2 z.toNat p hp;obtain⟨e1,e2,e3,e4⟩:=g4 p (Yy6 hp);have ed:ps.getD z.toNat (0,0)=p:=getD_of hp
    have hsp11:=kp _ _ spmd hsp10;have ht11:=t11 _ _ htt
    refine nm ?_;dsimp only;refine⟨_,rfl,w,_,dx,_,_,rfl,t11 _ _ h1,T.cl_Web,T.n_Web_ties,Zl1 _ _,_,rfl,tl,xs,z,.ref tt,rfl,rfl,SqL.of (t11 _ _ h2),ZO (n:=z.toNat) (by omega) hvv,?_⟩;refine nm ?_;dsimp only;have at_:∀ y:Int,0<=y->y<n->atI (IL ((List.range n.toNat).map (spt n.toNat ps ls x))) y=some (.int (spt n.toNat ps ls x y.toNat)):=fun y y0 y1=>ZO (n:=y.toNat) (by omega) (by rw[Ym,Ym,Y0k (by omega)];rfl)
    have c0:atI ([.int p.1,.int p.2]:List V) 0=some (.int p.1):=rfl;have c1:atI ([.int p.1,.int p.2]:List V) 1=some (.int p.2):=rfl
    refine⟨_,rfl,_,rfl,tt,_,0,_,rfl,rfl,SqT.of ht11,c0,sp,_,p.1,_,rfl,rfl,SqL.of hsp11,at_ p.1 e1 e2,_,rfl,_,rfl,tt,_,1,_,rfl,rfl,SqT.of ht11,c1,sp,_,p.2,_,rfl,rfl,SqL.of hsp11,at_ p.2 e3 e4,(by show 2<=sizeLine;decide),fun tA htA=>?_⟩;have s12:=Zz5 (o:=.tup [.int (spt n.toNat ps ls x p.1.toNat),.int (spt n.toNat ps ls x p.2.toNat)]) htA
    have hy12:=s12 _ _ hy11;have hA12:=Zz1 (H:=H11) (a:=tA) (o:=.tup [.int (spt n.toNat ps ls x p.1.toNat),.int (spt n.toNat ps ls x p.2.toNat)])
    have tmd:tA≠md:=Yy03 (Zb hy11 htA);have hY12:=hY11.same s12
    have yl:ys.length=ps.length:=by rw[hY12.1,Zo11]
    refine⟨_,rfl,_,rfl,md,_,_,z.toNat,rfl,rfl,hy12,Zz313 zb.1 (by omega),?_⟩;refine⟨ys.set z.toNat (.ref tA),some (.int z),some (.ref tt),rfl,fun a o ha e=>?_,Zz1,?_⟩
    ·rw[Zc ha];exact s12 _ _ (kp a o ha e)
    ·have e5:(spt n.toNat ps ls x p.1.toNat,spt n.toNat ps ls x p.2.toNat)=cwP n.toNat ps ls z.toNat:=by unfold cwP;rw[ed,show ls.getD z.toNat 0=x from zl]
     have hP:=(hY12.mut (l:=md) (zs:=ys.set z.toNat (.ref tA)) hy12).set z.toNat (v:=.ref tA) (p:=(spt n.toNat ps ls x p.1.toNat,spt n.toNat ps ls x p.2.toNat)) ⟨tA,rfl,by rw[Zc tmd];exact hA12⟩;rw[e5,Zn11 (q:=fun i=>ls.getD i 0∈Ls.take j\/(i:Int)∈(lvl ls x ps.length).take (k+1)) fun i _=>?_]at hP
     ·exact hP
     ·rw[YO,hz];show _\/(i:Int)∈(lvl ls x ps.length).take k++[z]↔_
      rw[Yy9,Yy1,or_assoc]
      have:(i:Int)=z↔i=z.toNat:=by omega
      rw[this]
   rintro σ H11 ⟨ys',v8,v9,rfl,kp,hy11,hY11⟩;rw[Zz4,YG]at hY11;have t11:Same H H11:=fun a o e=>kp a o (Zb e hmd0) (t10 a o e)
   refine⟨_,rfl,?_⟩;refine nm ?_;refine⟨m',S++lvl ls x ps.length,ys',_,_,_,_,_,_,rfl,t11,m'md,kp _ _ m'md hm10,up3,hy11,?_,kp _ _ lmd hl10⟩;rw[Zn4 (q:=fun i=>ls.getD i 0∈Ls.take (j+1)) fun i hi=>?_]at hY11
   ·exact hY11
   ·rw[YO,hx];show _↔ls.getD i 0∈Ls.take j++[x]
    rw[Yy9,Yy1,lvl_mem];have e:lnz ls (i:Int)=ls.getD i 0:=by unfold lnz;rw[Yw]
    rw[e];constructor
    ·rintro(h | h)
     ·exact .inl h
     ·exact .inr h.2
    ·rintro(h | h)
     ·exact .inl h
     ·exact .inr ⟨⟨by omega,by omega⟩,h⟩
  rintro σ H5 ⟨m,S,ys,v4,v5,v6,v7,v8,v9,rfl,s5,mmd,hm5,hSm,hy5,hY5,hl5⟩;rw[Zz4,YG,Zp11 fun i hi=>(hLm _).mpr (by rw[Yy3,Yy0 (show i<ls.length by omega)];exact Y0j _)]at hY5;refine⟨_,rfl,w,_,dx,_,_,rfl,s5 _ _ h1,T.cl_Web,T.n_Web_places,Zz31 _ _,_,rfl,fun w2 dx2 nx2 ndx2 nex2=>?_⟩;have v2:Same H5 (upd (upd H5 dx2 (.own w2)) w2 (.ins t.A_Web dx2 [])):=ZT (Zz5 ndx2) (by rw[Zc (Yy03 nex2)];exact nx2)
  refine⟨w2,dx2,n,md,false,ys,_,rfl,Zz1,fun o=>(Zv nx2 v2).seq (SqL.of hy5),hY5.same v2,ZK4 hG hl,fun H6 hW6 k6=>⟨rfl,?_⟩⟩;have v3:Same H5 H6:=fun b o e=>k6 b o (v2 b o e) (Zb e nx2)
  exact q w2 H6 (s5.trans v3) hW6
def spZw(K:PySem.W.Frag)(C:Addr):Sp:=fun vs H Q _=>∃(w b:Addr) (n:Int) (ps:List (Int × Int)) (ls:List Int),vs=[.ref w,.ref b]/\WebAt C H w n ps/\Zu n ps/\SqL K H b (IL ls)/\ls.length=ps.length /\
 (∀(U:List Int) (r:Addr) (H':Hp),Zd n (cwT n.toNat ps ls) U->(∀ W,Zd n (cwT n.toNat ps ls) W->HT.lexLt W U=false)->Same H H'->H' r=some (.tup (IL U))->Q (.ref r) H') /\
 ((∀ W,¬ Zd n (cwT n.toNat ps ls) W)->∀ H':Hp,Same H H'->False)
theorem scZw:FnScope ["web","lengths"] ["web","lengths"] (Zz7 sZw):=⟨rfl,rfl,rfl,by decide +kernel,rfl,by decide +kernel,by decide +kernel⟩
theorem okZw (T:Txt K mg t):FnOk P w K mg base CX0 8 t.aZw t.dZw ["web","lengths"] (spZw K t.A_Web):=by
 refine T.fZw.ok scZw (fun vs H Q E h=>?_) (fun cdv A outer s H vs Q E hr h=>?_)
 ·obtain⟨w,b,n,ps,ls,rfl,_⟩:=h;rfl
 ·obtain⟨w,b,n,ps,ls,rfl,hW,hG,hS,hl,q,qe⟩:=h;refine⟨_,(Zz6 (Zo (Za (okZq T) (hr.mono (by decide)) rfl T.mZq T.fZq.kp T.bZq .nil Zq (Zz0 (Za (okZv T) (hr.mono (by decide)) rfl T.mZv T.fZv.kp T.bZv .nil Zq (Zz0 (pv 0) (Zz0 (pv 1) Zz3))) Zz3)))),?_⟩;refine⟨_,rfl,_,rfl,w,b,n,ps,ls,rfl,hW,hG,hS,hl,fun w2 H1 s1 hW1=>?_⟩;have hC:=ZK4 hG hl
  refine⟨w2,n,_,rfl,hW1,hC,fun hf r H2 s2 hr=>?_,fun hf H2 s2=>?_⟩
  ·exact q _ r H2 (Zt6 hC hf) (fun W hV=>Yz4 hC hV) (s1.trans s2) hr
  ·refine qe (fun W hV=>?_) H2 (s1.trans s2)
   have:=(ZY3 hC hV).2.1
   omega
theorem Zz713{n:Int}{ps:List (Int × Int)}{ts:List Int}{p:Int × Int}(hT:Zd n ps ts)(h:p∈exs n ps ts ts):p.1∈ts/\(0<=p.1/\p.1<(ps.length:Int))/\0<=p.2/\p.2<(ps.length:Int)/\exg n ps ts p.1 p.2:=by obtain⟨o,ho,h2⟩:=Y1i.mp h;obtain⟨z,hz,rfl⟩:=Yr.mp h2;obtain⟨h3,h4⟩:=wo_mem.mp hz;obtain⟨z0,z1⟩:=Zx1 h3;exact⟨ho,hT.1.all o ho,z0,z1,ho,h4,h3⟩
def spZx(K:PySem.W.Frag)(C:Addr):Sp:=fun vs H Q _=>∃(w a b:Addr) (n:Int) (ps:List (Int × Int)) (kd ke:Bool) (ls ts:List Int),vs=[.ref w,.ref a,.ref b]/\WebAt C H w n ps/\Zu n ps/\SqK kd K H a (IL ls)/\SqK ke K H b (IL ts) /\
 (ls.length=ps.length->Zd n ps ts->∀(r:Addr) (xs:List V) (H':Hp),Same H H'->H r=none->H' r=some (.lst xs)->PairsV H' xs (gns n ps ls ts)->Q (.ref r) H')/\(ls.length≠ps.length->False)/\(ls.length=ps.length->¬ Zd n ps ts->∀ H':Hp,Same H H'->False)
theorem scZx:FnScope ["web","lengths","tree"] ["web","lengths","tree"] (Zz7 sZx):=⟨rfl,rfl,rfl,by decide +kernel,rfl,by decide +kernel,by decide +kernel⟩
theorem okZx (T:Txt K mg t):FnOk P w K mg base CX0 9 t.aZx t.dZx ["web","lengths","tree"] (spZx K t.A_Web):=by
 refine T.fZx.ok scZx (fun vs H Q E h=>?_) (fun cdv A outer s H vs Q E hr h=>?_)
 ·obtain⟨w,a,b,n,ps,kd,ke,ls,ts,rfl,_⟩:=h;rfl
 ·obtain⟨w,a,b,n,ps,kd,ke,ls,ts,rfl,hW,hG,hA,hB,q,q1,q2⟩:=h;refine⟨_,(Zz2 (ZA (Za (okZ9 T) (hr.mono (by decide)) rfl T.mZ9 T.fZ9.kp T.bZ9 .nil Zq (Zz0 (pv 0) (Zz0 (pv 1) Zz3))))
   (Zz6 (Zo (Zc5 rfl (sc0:=Zz7 sZx) (N0:=["web","lengths","tree"]) (N':=["out","into","lengths"]) (o:=2) (fr:=[1]) ⟨rfl,by decide +kernel,by decide +kernel,by decide +kernel,rfl,by decide +kernel⟩ (ZU K (Za (okZs T) (hr.mono (by decide)) rfl T.mZs T.fZs.kp T.bZs .nil Zq (Zz0 (pv 0) (Zz0 (pv 2) Zz3)))) (Zd2 (ZM (by decide) (ZM (by decide) Ze2))) (fun _ _ _ _=>(Zz71 (n:=2) K rfl (Zp (Ze (i:=0) (show List.Nodup (["out","into","lengths"]:List Str) by decide +kernel) rfl (Or.inl rfl)) (Zp (Ze (i:=1) (show List.Nodup (["out","into","lengths"]:List Str) by decide +kernel) rfl (Or.inl rfl)) Zz61)))) (fun _ _ _ _=>(Zz72 (Zg Zz16 (ZP (Zt4 K) (pv 2) (pv 1) (fun _ _=>rfl)) (ZP (Zt4 K) (pv 2) (pv 0) (fun _ _=>rfl)) (Zr _)))) (fun _ _ _ _=>(ZN (Zz0 (pv 0) (Zz0 (pv 1) Zz3)))))))),?_⟩
  refine⟨_,rfl,_,rfl,w,a,n,ps,kd,ls,rfl,hW,hA,fun hl=>?_,q1⟩;refine⟨_,rfl,_,rfl,w,b,n,ps,ke,ts,rfl,hW,hG,hB,fun hT r xs H1 s1 hr0 hr hP=>?_,q2 hl⟩;have hxl:=hP.1
  have el:(exs n ps ts ts).length<=600:=by
   have h1:=ZD6 (n:=n) (ps:=ps) (ts:=ts) ts;have h2:ts.length<=20:=by have:=hT.2.1;have:=hG.2.1;omega
   have h3:ps.length * ts.length<=30 * 20:=Y1h hG.2.2.1 h2;omega
  refine⟨r,rfl,⟨_,SqL.of hr⟩,ZD1 (K:=K) (a:=r) (xs:=xs) (fun i ys H2=>Same H1 H2/\i<=xs.length/\PairsV H2 ys (((exs n ps ts ts).take i).filter (gnB ls))) ⟨Same.refl _,Yj _,PairsV.nil⟩ (Zn (by omega))
   (fun i ys H2 hi ⟨e,hi2,ey⟩=>⟨SqL.of (e _ _ hr),by rw[ey.1];exact YF (Y0a ..) (by rw[Yz];omega)⟩) ?_ ?_⟩
  ·rintro i v ys H2 hi ⟨s2,hil,hY⟩ S hSS;obtain⟨p,hp,tt,rfl,htt⟩:=hP.at hi;have hil':i<xs.length:=(Yy2.mp hi).1
   have s12:=s1.trans s2;obtain⟨_,⟨o0,o1⟩,z0,z1,_⟩:=Zz713 hT (Yy6 hp);obtain⟨y,hy⟩:∃ y,ls[p.2.toNat]?=some y:=⟨_,Yy0 (by omega)⟩;obtain⟨x,hx⟩:∃ x,ls[p.1.toNat]?=some x:=⟨_,Yy0 (by omega)⟩;have ey:ls.getD p.2.toNat 0=y:=getD_of hy
   have ex:ls.getD p.1.toNat 0=x:=getD_of hx;refine⟨tt,_,rfl,SqT.of (s2 _ _ htt),rfl,_,_,rfl,_,_,rfl,rfl,?_⟩;refine⟨_,rfl,_,rfl,kd,a,_,_,.int y,rfl,rfl,hA.same s12,ZO (n:=p.2.toNat) (by omega) (Za3 hy),?_⟩;refine⟨_,rfl,_,rfl,kd,a,_,_,.int x,rfl,rfl,hA.same s12,ZO (n:=p.1.toNat) (by omega) (Za3 hx),?_⟩;refine⟨_,_,rfl,rfl,_,rfl,?_⟩;have tk:(exs n ps ts ts).take (i+1)=(exs n ps ts ts).take i++[p]:=by rw[YO,hp];rfl
   refine itd2 (fun hc=>?_) (fun hc=>?_)
   ·refine⟨_,rfl,_,rfl,(by show 2<=sizeLine;decide),fun pa hpa=>hSS _ _ ⟨s2.trans (Zz5 hpa),hil',?_⟩⟩;have hb:gnB ls p=true:=Yl (by rw[ey,ex];exact hc)
    rw[tk,Yy02,Y0o hb];exact(hY.same (Zz5 hpa)).snoc ⟨pa,rfl,Zz1⟩
   ·refine hSS _ _ ⟨s2,hil',?_⟩;have hb:¬ gnB ls p=true:=fun h=>hc (by have:=Yt h;rw[ey,ex]at this;exact this)
    rw[tk,Yy02,Y0p hb];rw[Yy18,YS];exact hY
  ·rintro ys H2 ⟨s2,_,hY⟩ d hd;rw[hxl,YG]at hY;have s3:=s2.trans (Zz5 (o:=.lst ys) hd)
   exact q hl hT d ys _ (s1.trans s3) ((s1.trans s2).free hd) Zz1 (hY.same (Zz5 hd))
def spZy(K:PySem.W.Frag)(C:Addr):Sp:=fun vs H Q _=>∃(w a b:Addr) (n:Int) (ps:List (Int × Int)) (kd ke:Bool) (ls ts:List Int),vs=[.ref w,.ref a,.ref b]/\WebAt C H w n ps/\Zu n ps/\SqK kd K H a (IL ls)/\SqK ke K H b (IL ts) /\
 (ls.length=ps.length->Zd n ps ts->∀ H':Hp,Same H H'->Q (.bl (decide (gns n ps ls ts=[]))) H')/\(ls.length≠ps.length->False)/\(ls.length=ps.length->¬ Zd n ps ts->∀ H':Hp,Same H H'->False)
theorem scZy:FnScope ["web","lengths","tree"] ["web","lengths","tree"] (Zz7 sZy):=⟨rfl,rfl,rfl,by decide +kernel,rfl,by decide +kernel,by decide +kernel⟩
theorem okZy (T:Txt K mg t):FnOk P w K mg base CX0 10 t.aZy t.dZy ["web","lengths","tree"] (spZy K t.A_Web):=by
 refine T.fZy.ok scZy (fun vs H Q E h=>?_) (fun cdv A outer s H vs Q E hr h=>?_)
 ·obtain⟨w,a,b,n,ps,kd,ke,ls,ts,rfl,_⟩:=h;rfl
 ·obtain⟨w,a,b,n,ps,kd,ke,ls,ts,rfl,hW,hG,hA,hB,q,q1,q2⟩:=h;refine⟨_,(Zz6 (Zo (Zc2 Zd5 (Zl (Zk K) (by rfl) T.n_len Boot.«len» (Zz0 (Za (okZx T) (hr.mono (by decide)) rfl T.mZx T.fZx.kp T.bZx .nil Zq (Zz0 (pv 0) (Zz0 (pv 1) (Zz0 (pv 2) Zz3)))) Zz3)) Zz9 (Zr _)))),?_⟩;refine⟨_,rfl,_,rfl,_,rfl,w,a,b,n,ps,kd,ke,ls,ts,rfl,hW,hG,hA,hB,fun hl hT r xs H1 s1 hr0 hr hP=>?_,q1,q2⟩;refine⟨r,_,rfl,.inl (SqL.of hr),?_⟩;refine⟨rfl,?_⟩;show Q (.bl (decide (V.int (xs.length:Int)=V.int 0))) H1
  rw[ZB,hP.1];have e:decide (((gns n ps ls ts).length:Int)=0)=decide (gns n ps ls ts=[]):=by rw[Y1X,<- YK];omega
  rw[e];exact q hl hT _ s1
def spZz(K:PySem.W.Frag)(C:Addr):Sp:=fun vs H Q E=>∃(w b:Addr) (n:Int) (ps:List (Int × Int)) (ls:List Int),vs=[.ref w,.ref b]/\WebAt C H w n ps/\Zu n ps/\SqL K H b (IL ls)/\ls.length=ps.length /\
 ∀(c:Nat) (H':Hp),TC n (cwT n.toNat ps ls) c->Same H H'->Q (.int c) H'
theorem scZz:FnScope ["web","lengths"] ["web","lengths"] (Zz7 sZz):=⟨rfl,rfl,rfl,by decide +kernel,rfl,by decide +kernel,by decide +kernel⟩
theorem okZz (T:Txt K mg t):FnOk P w K mg base CX0 8 t.aZz t.dZz ["web","lengths"] (spZz K t.A_Web):=by
 refine T.fZz.ok scZz (fun vs H Q E h=>?_) (fun cdv A outer s H vs Q E hr h=>?_)
 ·obtain⟨w,b,n,ps,ls,rfl,_⟩:=h;rfl
 ·obtain⟨w,b,n,ps,ls,rfl,hW,hG,hS,hl,q⟩:=h;refine⟨_,(Zz6 (Zo (Za (okZl T) (hr.mono (by decide)) rfl T.mZl T.fZl.kp T.bZl .nil Zq (Zz0 (Za (okZv T) (hr.mono (by decide)) rfl T.mZv T.fZv.kp T.bZv .nil Zq (Zz0 (pv 0) (Zz0 (pv 1) Zz3))) Zz3)))),?_⟩;refine⟨_,rfl,_,rfl,w,b,n,ps,ls,rfl,hW,hG,hS,hl,fun w2 H1 s1 hW1=>?_⟩;exact⟨w2,n,_,rfl,hW1,ZK4 hG hl,fun c H2 hc s2=>q c H2 hc (s1.trans s2)⟩
def spZA(K:PySem.W.Frag)(C:Addr):Sp:=fun vs H Q _=>∃(w b:Addr) (n:Int) (ps:List (Int × Int)) (ls:List Int) (z:Int),vs=[.ref w,.ref b,.int z]/\WebAt C H w n ps/\Zu n ps/\SqL K H b (IL ls)/\ls.length=ps.length/\-(10 ^ 70)<z/\z<10 ^ 70 /\
 (∀ c:Nat,TC n (cwT n.toNat ps ls) c->0<=z->z<(c:Int)->∀(U:List Int) (r:Addr) (H':Hp),Zd n (cwT n.toNat ps ls) U->Rk n (cwT n.toNat ps ls) U z.toNat->Same H H'->H' r=some (.tup (IL U))->Q (.ref r) H')/\((z<0\/∃ c:Nat,TC n (cwT n.toNat ps ls) c/\(c:Int)<=z)->∀ H':Hp,Same H H'->False)
theorem scZA:FnScope ["web","lengths","number"] ["web","lengths","number"] (Zz7 sZA):=⟨rfl,rfl,rfl,by decide +kernel,rfl,by decide +kernel,by decide +kernel⟩
theorem okZA (T:Txt K mg t):FnOk P w K mg base CX0 10 t.aZA t.dZA ["web","lengths","number"] (spZA K t.A_Web):=by
 refine T.fZA.ok scZA (fun vs H Q E h=>?_) (fun cdv A outer s H vs Q E hr h=>?_)
 ·obtain⟨w,b,n,ps,ls,z,rfl,_⟩:=h;rfl
 ·obtain⟨w,b,n,ps,ls,z,rfl,hW,hG,hS,hl,z0,z1,q,qe⟩:=h;refine⟨_,(Zz6 (Zo (Za (okZt T) (hr.mono (by decide)) rfl T.mZt T.fZt.kp T.bZt .nil Zq (Zz0 (Za (okZv T) (hr.mono (by decide)) rfl T.mZv T.fZv.kp T.bZv .nil Zq (Zz0 (pv 0) (Zz0 (pv 1) Zz3))) (Zz0 (pv 2) Zz3))))),?_⟩;refine⟨_,rfl,_,rfl,w,b,n,ps,ls,rfl,hW,hG,hS,hl,fun w2 H1 s1 hW1=>?_⟩;exact⟨_,rfl,w2,n,_,z,rfl,hW1,ZK4 hG hl,z0,z1,fun c hc a0 a1 U r H2 hU hR s2 hr=>q c hc a0 a1 U r H2 hU hR (s1.trans s2) hr,fun h H2 s2=>qe h H2 (s1.trans s2)⟩
def grO(n:Int)(ps:List (Int × Int))(os ins outs:List Int):List Int:=grw n.toNat ps (ins++os.filter fun z=>decide (z∉outs))
def spZB(K:PySem.W.Frag)(C:Addr):Sp:=fun vs H Q _=>∃(w a o i u:Addr) (n:Int) (ps:List (Int × Int)) (kd:Bool) (ls os ins outs:List Int),vs=[.ref w,.ref a,.ref o,.ref i,.ref u]/\WebAt C H w n ps/\Zu n ps/\SqK kd K H a (IL ls)/\ls.length=ps.length/\SqL K H o (IL os)/\os.length<=100/\os.Nodup/\(∀ z∈os,0<=z/\z<(ps.length:Int))/\SqT K H i (IL ins)/\SqT K H u (IL outs)/\ins.length<=100/\outs.length<=10000/\(∀ z∈ins,0<=z/\z<(ps.length:Int))/\(grO n ps os ins outs).Nodup /\
 (¬ ((grO n ps os ins outs).take ins.length=ins/\¬ ((grO n ps os ins outs).length:Int)<n - 1)->∀(r:Addr) (H':Hp),Same H H'->H r=none->H' r=some (.lst [])->Q (.ref r) H') /\
 ((grO n ps os ins outs).take ins.length=ins->¬ ((grO n ps os ins outs).length:Int)<n - 1->∀(ms:List Int) (r tp tr:Addr) (H':Hp),ms.Perm (grO n ps os ins outs)->ms.Pairwise (·<=·)->Same H H'->H r=none->H tp=none->H' r=some (.lst [.ref tp])->H' tp=some (.tup [.int (smW ls ms),.ref tr,.ref i,.ref u])->H' tr=some (.tup (IL ms))->Q (.ref r) H')
theorem scZB:FnScope ["web","lengths","order","inside","outside","tree"] ["web","lengths","order","inside","outside"] (Zz7 sZB):=⟨rfl,rfl,rfl,by decide +kernel,rfl,by decide +kernel,by decide +kernel⟩
theorem okZB (T:Txt K mg t):FnOk P w K mg base CX0 5 t.aZB t.dZB ["web","lengths","order","inside","outside"] (spZB K t.A_Web):=by
 refine T.fZB.ok scZB (fun vs H Q E h=>?_) (fun cdv A outer s H vs Q E hr h=>?_)
 ·obtain⟨w,a,o,i,u,n,ps,kd,ls,os,ins,outs,rfl,_⟩:=h;rfl
 ·obtain⟨w,a,o,i,u,n,ps,kd,ls,os,ins,outs,rfl,hW,hG,hA,hll,hO,hol,hon,hoz,hI,hU,hil,hul,hiz,hgn,q0,q1⟩:=h;refine⟨_,(Zz2 (Zf (i:=5) scZB.nd rfl (Or.inl rfl) (Za (okZp T) (hr.mono (by decide)) rfl T.mZp T.fZp.kp T.bZp .nil Zq (Zz0 (pv 0) (Zz0 (pv 3) (Zz0 (Zc5 rfl (sc0:=Zz7 sZB) (N0:=["web","lengths","order","inside","outside","tree"]) (N':=["tie","outside"]) (o:=1) (fr:=[4]) ⟨rfl,by decide +kernel,by decide +kernel,by decide +kernel,rfl,by decide +kernel⟩ (ZU K (pv 2)) (ZH (by decide)) (fun _ _ _ _=>(Ze (i:=0) (show List.Nodup (["tie","outside"]:List Str) by decide +kernel) rfl (Or.inl rfl))) (fun _ _ _ _=>(Zz72 (Zg (ZM2 K) (pv 0) (pv 1) rfl))) (fun _ _ _ _=>(pv 0))) Zz3)))))
   (Zz2 (Zj1 (Zg Zc11 (pv 5) Zq7 (Zr _))
   (Zz6 (Zo (Zz81 Zz3)))
   Zs)
   (Zz6 (Zo (Zz81 (Zz0 (ZN (Zz0 (Za (okZu T) (hr.mono (by decide)) rfl T.mZu T.fZu.kp T.bZu .nil Zq (Zz0 (pv 0) (Zz0 (pv 1) (Zz0 (pv 5) Zz3)))) (Zz0 (pv 5) (Zz0 (pv 3) (Zz0 (pv 4) Zz3))))) Zz3)))))),?_⟩
  have one:1<=sizeLine:=by decide
  have four:4<=sizeLine:=by decide
  have fl:∀ l:List Int,(l.filter fun z=>decide (z∉outs)).length<=l.length:=fun l=>Y0a _ _;refine⟨_,rfl,_,rfl,_,rfl,o,rfl,⟨_,hO⟩,ZD1 (K:=K) (a:=o) (xs:=IL os) (fun j ys H2=>H2=H/\j<=os.length/\ys=IL ((os.take j).filter fun z=>decide (z∉outs))) ⟨rfl,Yj _,rfl⟩ (Zn (by rw[Zz4];omega)) (fun j ys H2 hj ⟨e,hj2,ey⟩=>⟨e ▸ hO,by rw[ey,Zz4];exact YF (fl _) (by rw[Yz];omega)⟩) ?_ ?_⟩
  ·rintro j v ys H2 hj ⟨rfl,hjl,rfl⟩ S hSS;obtain⟨z,rfl,hz⟩:=ZW hj;have hj':j<os.length:=(Yy2.mp hz).1
   refine nm ?_;refine⟨_,rfl,_,rfl,u,_,rfl,.inr hU,rfl,Zz03 outs,_,rfl,?_⟩;rw[ZV3];have et:os.take (j+1)=os.take j++[z]:=by rw[YO,hz];rfl
   refine itn2 (fun hc=>?_) (fun hc=>?_)
   ·refine hSS _ _ ⟨rfl,hj',?_⟩;rw[et,Yy02,Y0p (by simp[hc]),Yy18,YS]
   ·refine⟨_,rfl,hSS _ _ ⟨rfl,hj',?_⟩⟩;rw[et,Yy02,Y0o (by simp[hc]),Yy18,ZR]
  rintro ys H2 ⟨rfl,_,rfl⟩ d hd;rw[Zz4,YG];have s1:=Zz5 (o:=.lst (IL (os.filter fun z=>decide (z∉outs)))) hd
  have h1:(upd H2 d (.lst (IL (os.filter fun z=>decide (z∉outs))))) d=some (.lst (IL (os.filter fun z=>decide (z∉outs)))):=Zz1;generalize upd H2 d (.lst (IL (os.filter fun z=>decide (z∉outs))))=H1 at *;have hall:∀ z∈ins++os.filter fun z=>decide (z∉outs),0<=z/\z<(ps.length:Int):=fun z hz=>by
   rcases Yy9.mp hz with hz | hz
   ·exact hiz z hz
   ·exact hoz z (Yi.mp hz).1
  refine⟨w,i,d,n,ps,true,false,ins,os.filter fun z=>decide (z∉outs),rfl,hW.same s1,hG,SqK.same (k:=true) s1 hI,SqL.of h1,by omega,YF (fl os) (by omega),hall,fun hno H3 s3=>?_,fun h2 h3 r ms H3 hp hs s3 hr0 hr3=>?_⟩
  ·refine nm ?_;dsimp only;refine⟨_,rfl,rfl,_,rfl,?_⟩;refine itd rfl ?_;refine⟨Yj _,fun r hr=>?_⟩;refine q0 (fun⟨h2,h3⟩=>?_) r _ ((s1.trans s3).trans (Zz5 hr)) ((s1.trans s3).free hr) Zz1;rcases hno with h | h
   ·exact h h2
   ·exact h3 h
  ·refine nm ?_;dsimp only;refine⟨_,rfl,rfl,_,rfl,?_⟩;refine itdn (fun z=>by cases z) ?_;have s13:=s1.trans s3
   have hsub:∀ z∈ms,z∈grO n ps os ins outs:=fun z hz=>hp.mem_iff.mp hz;have hset:IsSet ps.length ms:=isSet_iff.mpr ⟨fun z hz=>Zt8 hall z (hsub z hz),?_⟩
   ·refine⟨_,rfl,_,rfl,_,rfl,w,a,r,n,ps,kd,true,ls,ms,rfl,hW.same s13,hG.2.2.1,hA.same s13,SqT.of hr3,hll,hset,fun H4 s4=>?_⟩;refine⟨_,rfl,_,rfl,_,rfl,four,fun tp htp=>?_⟩;have s14:=s13.trans s4
    have u5:=Zz5 (o:=.tup [.int (smW ls ms),.ref r,.ref i,.ref u]) htp;refine⟨one,fun l hl=>?_⟩;have u6:=Zz5 (o:=.lst [.ref tp]) hl
    exact q1 h2 h3 ms l tp r _ hp hs ((s14.trans u5).trans u6) ((s14.trans u5).free hl) (s14.free htp) Zz1 (u6 _ _ Zz1) ((u5.trans u6) _ _ (s4 _ _ hr3))
   ·have hnd:ms.Nodup:=hp.nodup_iff.mpr hgn;exact(hs.and hnd).imp fun⟨x,y⟩=>by omega
def EV(K:PySem.W.Frag)(H:Hp)(ls:List Int)(v:V)(E:Ent):Prop:=∃ tp tr ti to:Addr,v=.ref tp/\H tp=some (.tup [.int (sumL ls E.T),.ref tr,.ref ti,.ref to])/\H tr=some (.tup (IL E.T))/\SqT K H ti (IL E.I)/\SqT K H to (IL E.O)
theorem EV.same{K:PySem.W.Frag}{H H':Hp}{ls:List Int}{v:V}{E:Ent}(s:Same H H')(h:EV K H ls v E):EV K H' ls v E:=by obtain⟨tp,tr,ti,to,e,h1,h2,h3,h4⟩:=h;exact⟨tp,tr,ti,to,e,s _ _ h1,s _ _ h2,SqK.same (k:=true) s h3,SqK.same (k:=true) s h4⟩
theorem ZE5{K:PySem.W.Frag}{H:Hp}{r a:Addr}{xs zs:List V}{o:HO}(hr:H r=some (.lst zs))(h:SqT K H a xs):SqT K (upd H r o) a xs:=by
 rcases h with (h | ⟨u,h⟩) | h
 ·exact .inl (.inl (by rw[Zc (Zr3 h hr (by simp))];exact h))
 ·exact .inl (.inr ⟨u,by rw[Zc (Zr3 h hr (by simp))];exact h⟩)
 ·exact .inr h
theorem EV.put{K:PySem.W.Frag}{H:Hp}{ls:List Int}{v:V}{E:Ent}{r:Addr}{zs:List V}{o:HO}(hr:H r=some (.lst zs))(h:EV K H ls v E):EV K (upd H r o) ls v E:=by obtain⟨tp,tr,ti,to,e,h1,h2,h3,h4⟩:=h;exact⟨tp,tr,ti,to,e,by rw[Zc (Zr3 h1 hr (by simp))];exact h1,by rw[Zc (Zr3 h2 hr (by simp))];exact h2,ZE5 hr h3,ZE5 hr h4⟩
theorem ZJ8{K:PySem.W.Frag}{H:Hp}{a b:Addr}{xs ys:List V}{Q:VK}(ha:SqT K H a xs)(hb:SqT K H b ys)(hy:ys≠[])(hz:xs.length+ys.length<=sizeLine)(q:∀(p:Addr) (H':Hp),Same H H'->SqT K H' p (xs++ys)->Q (.ref p) H'):ZZ10 K (.ref a) (.ref b) H Q :=
 ⟨a,b,xs,ys,rfl,rfl,ha,hb,hz,fun e=>q b H (Same.refl _) (by rw[e];exact hb),fun _ e=>absurd e hy,fun _ _ p hp=>q p _ (Zz5 hp) (SqT.of Zz1)⟩
def spZC(K:PySem.W.Frag)(C:Addr):Sp:=fun vs H Q _=>∃(w a o tk:Addr) (n:Int) (ps:List (Int × Int)) (kd:Bool) (ls os:List Int) (E:Ent),vs=[.ref w,.ref a,.ref o,.ref tk]/\WebAt C H w n ps/\Zu n ps/\SqK kd K H a (IL ls)/\ls.length=ps.length/\SqL K H o (IL os)/\OrdL ls ps.length os/\EV K H ls (.ref tk) E/\EOk n ps ls E /\
 ∀(ys:List V) (Es:List Ent) (r:Addr) (H':Hp),FB n ps ls E E.T Es->Es.length<=14->Bears (EV K H' ls) ys Es->Same H H'->H r=none->H' r=some (.lst ys)->Q (.ref r) H'
theorem scZC:FnScope ["web","lengths","order","taken","inside","outside","firsts","tie"] ["web","lengths","order","taken"] (Zz7 sZC):=⟨rfl,rfl,rfl,by decide +kernel,rfl,by decide +kernel,by decide +kernel⟩
theorem okZC (T:Txt K mg t):FnOk P w K mg base CX0 6 t.aZC t.dZC ["web","lengths","order","taken"] (spZC K t.A_Web):=by
 refine T.fZC.ok scZC (fun vs H Q E h=>?_) (fun cdv A outer s H vs Q E hr h=>?_)
 ·obtain⟨w,a,o,tk,n,ps,kd,ls,os,E,rfl,_⟩:=h;rfl
 ·obtain⟨w,a,o,tk,n,ps,kd,ls,os,E,rfl,hW,hG,hA,hll,hO,ho,hV,hE,q⟩:=h;refine⟨_,(Zz2 (Zf (i:=4) scZC.nd rfl (Or.inl rfl) (ZP (ZF K) (pv 3) Zz9 (fun _ _=>rfl)))
   (Zz2 (Zf (i:=5) scZC.nd rfl (Or.inl rfl) (ZP (ZF K) (pv 3) Zz9 (fun _ _=>rfl)))
   (Zz2 (Zf (i:=6) scZC.nd rfl (Or.inl rfl) (Zz81 Zz3))
   (Zz2 (Ze1 YT rfl (Zx2 K (ZP (ZF K) (pv 3) Zz9 (fun _ _=>rfl))) (Ze (i:=7) scZC.nd rfl (Or.inl rfl))
   (Zz6 (Zj1 (Zg (ZM2 K) (pv 7) (pv 4) rfl)
   (Zz2 (ZA (Zf1 K YB Y1N Y1M ZN2 (pv 6) (Zz0 (Za (okZB T) (hr.mono (by decide)) rfl T.mZB T.fZB.kp T.bZB .nil Zq (Zz0 (pv 0) (Zz0 (pv 1) (Zz0 (pv 2) (Zz0 (pv 4) (Zz0 (Zj (Yz2 K) (pv 5) (ZN (Zz0 (pv 7) Zz3))) Zz3)))))) Zz3)))
   (Zz6 (Zf (i:=4) scZC.nd rfl (Or.inl rfl) (Zj (Yz2 K) (pv 4) (ZN (Zz0 (pv 7) Zz3))))))
   Zs)))
   (Zz6 (Zo (pv 6))))))),?_⟩
  obtain⟨tp,tr,ti,to,e,h1,h2,h3,h4⟩:=hV;cases e;refine⟨_,rfl,tk,_,2,.ref ti,rfl,rfl,SqT.of h1,rfl,?_⟩;refine nm ?_;dsimp only;refine⟨_,rfl,tk,_,3,.ref to,rfl,rfl,SqT.of h1,rfl,?_⟩;refine nm ?_;dsimp only;refine⟨Yj _,fun r hr=>?_⟩;have u0:=Zz5 (o:=.lst []) hr
  have hTl:(E.T.length:Int)=n - 1:=hE.own.1.2.1;have hG2:=hG.2.1
  have hps:=hG.2.2.1;have one:1<=sizeLine:=by decide
  have z1:100000<=sizeLine:=by decide
  have hnd:E.T.Nodup:=hE.own.1.1.nodup;have hol:os.length=ps.length:=by rw[ho.1.length_eq,Zy]
  have hon:os.Nodup:=ho.2.imp fun h e=>by rw[e]at h;omega
  refine nm ?_;dsimp only;refine⟨_,rfl,tk,_,1,.ref tr,rfl,rfl,SqT.of (u0 _ _ h1),rfl,tr,rfl,⟨_,SqT.of (u0 _ _ h2)⟩,ZD4 (K:=K) (a:=tr) (xs:=IL E.T) (fun j σ H2=>∃(iA:Addr) (v7:Option V) (ys:List V) (Es:List Ent),σ=[some (.ref w),some (.ref a),some (.ref o),some (.ref tk),some (.ref iA),some (.ref to),some (.ref r),v7]/\j<=E.T.length/\Same H H2/\SqT K H2 iA (IL (insd E (E.T.take j)))/\H2 r=some (.lst ys)/\Bears (EV K H2 ls) ys Es/\FB n ps ls E (E.T.take j) Es/\Es.length<=j) ⟨ti,none,[],[],rfl,Yj _,u0,?_,Zz1,⟨rfl,fun i a h=>by cases h⟩,FB.nil,Yy7 _⟩ (fun j σ H2 _ ⟨_,_,_,_,_,_,s2,_⟩=>SqT.of (s2 _ _ h2)) ?_ ?_⟩
  ·rw[show insd E (E.T.take 0)=E.I by unfold insd;rw[List.take_zero,Yy18,YS]];exact SqK.same (k:=true) u0 h3
  rotate_left
  ·rintro σ H2 ⟨iA,v7,ys,Es,rfl,_,s2,_,hr2,hB,hF,hlen⟩;rw[Zz4,YG]at hF;exact⟨_,rfl,q ys Es r H2 hF (by rw[Zz4]at hlen;omega) hB s2 hr hr2⟩
  rintro j v σ H2 hj ⟨iA,v7,ys,Es,rfl,hjl,s2,hiA,hr2,hB,hF,hlen⟩;obtain⟨z,rfl,hz⟩:=ZW hj;have hj':j<E.T.length:=(Yy2.mp hz).1
  have et:E.T.take (j+1)=E.T.take j++[z]:=by rw[YO,hz];rfl
  have hzT:z∈E.T:=Yy6 hz;have hzl:z∉E.T.take j:=fun hm=>by
   have:=hnd.sublist (Y1r (j+1) E.T)
   rw[et]at this;exact(Yy06.mp this).2.2 z hm z (Yy1.mpr rfl) rfl
  have hb:=hE.own.1.1.all z hzT;refine nm ?_;dsimp only;refine⟨_,rfl,_,rfl,iA,_,rfl,.inr hiA,rfl,Zz03 _,_,rfl,?_⟩;rw[ZV3];refine itn2 (fun hc=>?_) (fun hc=>?_)
  ·have hzI:z∈E.I:=(insd_mem.mp hc).resolve_right hzl;show(_:Prop)
   refine⟨iA,_,ys,Es,rfl,hj',s2,?_,hr2,hB,?_,by omega⟩
   ·have ei:insd E (E.T.take (j+1))=insd E (E.T.take j):=by unfold insd;rw[et,Yy02,Y0p (by simp[hzI]),Yy18,YS]
    rw[ei];exact hiA
   ·rw[et];exact hF.skip hzI
  ·have hzI:z∉E.I:=fun h=>hc (insd_mem.mpr (.inl h));have ei:insd E (E.T.take (j+1))=insd E (E.T.take j)++[z]:=by unfold insd;rw[et,Yy02,Y0o (by simp[hzI]),Yy18,Y0f]
   have hIr:∀ y∈insd E (E.T.take j),0<=y/\y<(ps.length:Int):=fun y hy=>hE.own.1.1.all y ((insd_mem.mp hy).elim (hE.own.2.1 y) fun h=>Y0R h);have hIl:(insd E (E.T.take j)).length<=100:=by
    have:=hE.iL
    unfold insd;rw[Yy8]
    have:=Y0a (fun z=>decide (z∉E.I)) (E.T.take j)
    rw[Yz]at this;omega
   have hOl:=hE.oL;have fin:∀(zs:List V) (Fs:List Ent) (H4:Hp) (r3:Addr),Same H2 H4->H4 r3=some (.lst zs)->zs.length<=1->Bears (EV K H4 ls) zs Fs->FB n ps ls E (E.T.take j++[z]) (Es++Fs)->Fs.length<=1 ->
     Zf8 (.ref r) [.ref r3] H4 fun _ H5=>tAsg (tOp (ZZ10 K) (tVar 4) (tTup (Zr10 (tVar 7) tNil))) (ZA8 4) { nx:=fun σ H'=>∃(iA:Addr) (v7:Option V) (ys:List V) (Es:List Ent),σ=[some (.ref w),some (.ref a),some (.ref o),some (.ref tk),some (.ref iA),some (.ref to),some (.ref r),v7]/\j+1<=E.T.length/\Same H H'/\SqT K H' iA (IL (insd E (E.T.take (j+1))))/\H' r=some (.lst ys)/\Bears (EV K H' ls) ys Es/\FB n ps ls E (E.T.take (j+1)) Es/\Es.length<=j+1,rt:=Q } [some (.ref w),some (.ref a),some (.ref o),some (.ref tk),some (.ref iA),some (.ref to),some (.ref r),some (.int z)] H5:=by
    intro zs Fs H4 r3 s4 hr3 hz1 hBz hF2 hFl;have hyl:ys.length=Es.length:=hB.1
    refine⟨r,r3,ys,zs,rfl,rfl,s4 _ _ hr2,hr3,by omega,?_⟩;refine⟨_,rfl,_,rfl,one,fun t2 ht2=>?_⟩;have hiA4:SqT K (upd H4 r (.lst (ys++zs))) iA (IL (insd E (E.T.take j))):=ZE5 (s4 _ _ hr2) (SqK.same (k:=true) s4 hiA)
    have u2:=Zz5 (o:=.tup (IL [z])) ht2;refine ZJ8 (SqK.same (k:=true) u2 hiA4) (SqT.of Zz1) (by simp) (by rw[Zz4];show _+1<=_;omega) fun p2 H6 s6 hp2=>?_;refine nm ?_;have s5:Same H (upd H4 r (.lst (ys++zs))):=Zv hr (s2.trans s4)
    have s56:=u2.trans s6;refine⟨p2,_,ys++zs,Es++Fs,rfl,hj',s5.trans s56,?_,s56 _ _ Zz1,?_,by rw[et];exact hF2,by rw[Yy8];omega⟩
    ·rw[ei,ZR];exact hp2
    ·exact((hB.imp fun _ _ h=>h.same s4).app hBz).imp fun _ _ h=>(EV.put (s4 _ _ hr2) h).same s56
   refine⟨_,rfl,.inl ⟨rfl,_,SqL.of hr2⟩,_,rfl,_,rfl,_,rfl,_,rfl,_,rfl,_,rfl,one,fun t1 ht1=>?_⟩;have u1:=Zz5 (o:=.tup (IL [z])) ht1
   refine ZJ8 (SqK.same (k:=true) (s2.trans u1) h4) (SqT.of Zz1) (by simp) (by rw[Zz4];show _+1<=_;omega) fun p1 H3 s3 hp1=>?_;have s13:=u1.trans s3
   have s23:=s2.trans s13;have hp1:SqT K H3 p1 (IL (E.O++[z])):=by rw[ZR];exact hp1
   refine⟨w,a,o,iA,p1,n,ps,kd,ls,os,insd E (E.T.take j),E.O++[z],rfl,hW.same s23,hG,hA.same s23,hll,SqK.same (k:=false) s23 hO,by omega,hon,fun y hy=>(Zo3 hG ho).mp hy,SqK.same (k:=true) s13 hiA,hp1,hIl,by rw[Yy8];show _+1<=_;omega,hIr,ZX2 hG _ (ZK7 hG ho hIr),fun hno r3 H4 s4 hr30 hr3=>?_,fun g1 g2 ms r3 tp2 tr2 H4 hp hs s4 hr30 htp0 hr3 htp htr=>?_⟩
   ·have hd:insd E (E.T.take j)=_:=rfl;refine fin [] [] H4 r3 (s13.trans s4) hr3 (Yj _) ⟨rfl,fun i a h=>by cases h⟩ ?_ (Yj _);rw[YS];refine hF.none (Zx8 hG ho hIr ?_ hno);exact Yy06.mpr ⟨hE.iN,(hnd.sublist (Y1r _ _)).filter _,fun a ha b hb e=>Yt (Yi.mp hb).2 (e ▸ ha)⟩
   ·refine fin [.ref tp2] [⟨ms,insd E (E.T.take j),E.O++[z]⟩] H4 r3 (s13.trans s4) hr3 (Yy7 _) ⟨rfl,fun i a h=>?_⟩ (hF.more (Za11 hG ho hE (hnd.sublist (Y1r _ _)) (fun y hy=>Y0R hy) hzT hc g1 g2 hp hs)) (Yy7 _)
    match i,h with
    | 0,h =>
     obtain rfl:=Yc h;exact⟨_,rfl,tp2,tr2,iA,p1,rfl,htp,htr,SqK.same (k:=true) (s13.trans s4) hiA,SqK.same (k:=true) s4 hp1⟩
    | i+1,h=>cases h
def ZX12(st:Stmt):Pos:=match (Zu1 st).getD 1 (.Pass ⟨0,0,0,0⟩) with
 | .Assign _ (.Call _ _ [k] _) _=>(match k.value with
  | .Lambda _ _ _ p=>p
  | _=>⟨0,0,0,0⟩)
 | _=>⟨0,0,0,0⟩
def ZI13:Str:=Str.ofString "ranked"++Str.ofString ".<locals>."++Str.ofString "<lambda>"
abbrev TabR(H:Hp)(Pt:Addr):Prop:=TabH H Pt (ZX12 sZD) ZI13
def PV(H:Hp)(ls:List Int)(v:V)(T:List Int):Prop:=∃ tp tr:Addr,v=.ref tp/\H tp=some (.tup [.int (sumL ls T),.ref tr])/\H tr=some (.tup (IL T))
theorem PV.same{H H':Hp}{ls:List Int}{v:V}{T:List Int}(s:Same H H')(h:PV H ls v T):PV H' ls v T:=by obtain⟨tp,tr,e,h1,h2⟩:=h;exact⟨tp,tr,e,s _ _ h1,s _ _ h2⟩
theorem PV.put{H:Hp}{ls:List Int}{v:V}{T:List Int}{r:Addr}{zs:List V}{o:HO}(hr:H r=some (.lst zs))(h:PV H ls v T):PV (upd H r o) ls v T:=by obtain⟨tp,tr,e,h1,h2⟩:=h;exact⟨tp,tr,e,by rw[Zc (Zr3 h1 hr (by simp))];exact h1,by rw[Zc (Zr3 h2 hr (by simp))];exact h2⟩
theorem ZR11{K:PySem.W.Frag}{H:Hp}{ls:List Int}{v u:V}{E F:Ent}(h1:EV K H ls v E)(h2:EV K H ls u F):EqD K H 2 v u (decide (E=F)):=by
 obtain⟨tp,tr,ti,to,rfl,a1,a2,a3,a4⟩:=h1;obtain⟨tp',tr',ti',to',rfl,b1,b2,b3,b4⟩:=h2;have e:((List.range (min [V.int (sumL ls E.T),.ref tr,.ref ti,.ref to].length [V.int (sumL ls F.T),.ref tr',.ref ti',.ref to'].length)).all (fun i=>match i with
   | 0=>decide (sumL ls E.T=sumL ls F.T)
   | 1=>decide (E.T=F.T)
   | 2=>decide (E.I=F.I)
   | _=>decide (E.O=F.O)) && [V.int (sumL ls E.T),.ref tr,.ref ti,.ref to].length == [V.int (sumL ls F.T),.ref tr',.ref ti',.ref to'].length)=decide (E=F):=by
  show(decide (sumL ls E.T=sumL ls F.T) && (decide (E.T=F.T) && (decide (E.I=F.I) && (decide (E.O=F.O) && true))) && true)=decide (E=F);obtain⟨T1,I1,O1⟩:=E;obtain⟨T2,I2,O2⟩:=F;rw[Y0h];simp only [Y3d,Y0t,Y1U,Ent.mk.injEq];constructor
  ·rintro⟨_,h1,h2,h3⟩;exact⟨h1,h2,h3⟩
  ·rintro⟨h1,h2,h3⟩;exact⟨by rw[h1],h1,h2,h3⟩
 rw[<- e];refine EqD.tups (SqT.of a1) (SqT.of b1) fun i x y hx hy=>?_
 match i,hx,hy with
 | 0,hx,hy =>
  obtain rfl:=Yc hx;obtain rfl:=Yc hy;exact Yz3 rfl rfl
 | 1,hx,hy =>
  obtain rfl:=Yc hx;obtain rfl:=Yc hy;exact Zi1 (SqT.of a2) (SqT.of b2)
 | 2,hx,hy =>
  obtain rfl:=Yc hx;obtain rfl:=Yc hy;exact Zi1 a3 b3
 | 3,hx,hy =>
  obtain rfl:=Yc hx;obtain rfl:=Yc hy;exact Zi1 a4 b4
 | i+4,hx,_=>cases hx
def spZD(K:PySem.W.Frag)(C Pt:Addr):Sp:=fun vs H Q _=>∃(w a:Addr) (n most:Int) (ps:List (Int × Int)) (kd:Bool) (ls:List Int),vs=[.ref w,.ref a,.int most]/\WebAt C H w n ps/\Zu n ps/\SqK kd K H a (IL ls)/\ls.length=ps.length/\0<=most/\most<=1000/\TabR H Pt /\
 ∀(ys:List V) (L:List (List Int)) (r:Addr) (H':Hp),Rkd n ps ls most.toNat L->Bears (PV H' ls) ys L->SameX Pt H H'->TabR H' Pt->H r=none->H' r=some (.lst ys)->Q (.ref r) H'
theorem scZD:FnScope ["web","lengths","most","order","waiting","told","taken"] ["web","lengths","most"] (Zz7 sZD):=⟨rfl,rfl,rfl,by decide +kernel,rfl,by decide +kernel,by decide +kernel⟩
theorem okZD {Pt:Addr} (T:Txt K mg t) (hB:Zl13 K mg base t.dZD Pt):FnOk P w K mg base CX0 8 t.aZD t.dZD ["web","lengths","most"] (spZD K t.A_Web Pt):=by
 obtain⟨cA,hcode,hC,hBa,hPg⟩:=hB;refine T.fZD.okL hcode scZD (fun vs H Q E h=>?_) (fun A outer s H vs Q E hr h=>?_)
 ·obtain⟨w,a,n,most,ps,kd,ls,rfl,_⟩:=h;rfl
 ·obtain⟨w,a,n,most,ps,kd,ls,rfl,hW,hG,hA,hll,hm0,hm1,hT,q⟩:=h;refine⟨_,(Zz2 (ZA (Za (okZ9 T) (hr.mono (by decide)) rfl T.mZ9 T.fZ9.kp T.bZ9 .nil Zq (Zz0 (pv 0) (Zz0 (pv 1) Zz3))))
   (Zz2 (Zf (i:=3) scZD.nd rfl (Or.inl rfl) (ZW5 (k:=0) (i:=1) (v:="tie") (x:="lengths") (Za (okZa T) (hr.mono (by decide)) rfl T.mZa T.fZa.kp T.bZa .nil Zq (Zz0 (pv 0) Zz3)) (by rfl) T.n_sorted (hr.mono (by decide)) rfl rfl hC hBa hPg (LamScope.of rfl rfl rfl (by first | exact .inl rfl | exact .inr rfl) (by decide)) rfl rfl (fun _ _ _ _=>rfl) rfl rfl rfl (fun _ _ _ _ _ _ hr=>(ZP (Zt4 K) (pv 1) (pv 0) (fun _ _=>rfl)))))
   (Zz2 (Zf (i:=4) scZD.nd rfl (Or.inl rfl) (Za (okZB T) (hr.mono (by decide)) rfl T.mZB T.fZB.kp T.bZB .nil Zq (Zz0 (pv 0) (Zz0 (pv 1) (Zz0 (pv 3) (Zz0 (ZN Zz3) (Zz0 (ZN Zz3) Zz3)))))))
   (Zz2 (Zf (i:=5) scZD.nd rfl (Or.inl rfl) (Zz81 Zz3))
   (Zz2 (ZT5 YT (PW.pt (Zf9 (Zg Ze11 (Zl (Zk K) (by rfl) T.n_len Boot.«len» (Zz0 (pv 4) Zz3)) Zz9 (Zr _)) (ZQ5 (Zg Zz16 (Zl (Zk K) (by rfl) T.n_len Boot.«len» (Zz0 (pv 5) Zz3)) (pv 2) (Zr _)))))
   (Zz2 (Zf (i:=6) scZD.nd rfl (Or.inl rfl) (Zl (Zz37 K rfl (hu8 hr)) (by rfl) T.n_min Boot.«min» (Zz0 (pv 4) Zz3)))
   (Zz2 (ZA (Zf1 K YB PySem.F.slot_list_remove PySem.F.type_list_remove (Zz66 K (hu8 hr)) (pv 4) (Zz0 (pv 6) Zz3)))
   (Zz2 (ZA (Zf1 K YB YR YQ ZG (pv 5) (Zz0 (ZN (Zz0 (ZP (ZF K) (pv 6) Zz9 (fun _ _=>rfl)) (Zz0 (ZP (ZF K) (pv 6) Zz9 (fun _ _=>rfl)) Zz3))) Zz3)))
   (Zz6 (ZA (Zf1 K YB Y1N Y1M ZN2 (pv 4) (Zz0 (Za (okZC T) (hr.mono (by decide)) rfl T.mZC T.fZC.kp T.bZC .nil Zq (Zz0 (pv 0) (Zz0 (pv 1) (Zz0 (pv 3) (Zz0 (pv 6) Zz3))))) Zz3))))))))
   (Zz6 (Zo (pv 5)))))))),?_⟩
  have hps:=hG.2.2.1;have hG2:=hG.2.1
  refine⟨_,rfl,_,rfl,w,a,n,ps,kd,ls,rfl,hW,hA,fun _=>?_,fun h=>absurd hll h⟩;refine⟨_,rfl,w,n,ps,rfl,hW,by omega,fun p1 H1 s1 hp10 hp1=>?_⟩;have hT1:TabR H1 Pt:=hT.same s1
  refine⟨p1,rgL ps.length,.ref a,fun z=>lnz ls z,rfl,SqT.of hp1,by rw[Zy];omega,hT1,rfl,fun H2 sx z hz=>?_,fun os l H2 hst sx tab hl2=>?_⟩
  ·have hb:=rgL_mem.mp hz;obtain⟨y,hy⟩:∃ y,ls[z.toNat]?=some y:=⟨_,Yy0 (by omega)⟩;have e:lnz ls z=y:=getD_of hy
   refine⟨_,rfl,_,rfl,kd,a,_,_,.int y,rfl,rfl,(hA.same s1).samex hT1 sx,ZO (n:=z.toNat) (by omega) (Za3 hy),?_,rfl⟩;show V.int y=V.int (lnz ls z)
   rw[e]
  have hO2:OrdL ls ps.length os:=ZV8 hst;have s3:=Zz5 (o:=.lst (IL os)) hl2
  have h3l:(upd H2 l (.lst (IL os))) l=some (.lst (IL os)):=Zz1;have sx3:SameX Pt H (upd H2 l (.lst (IL os))):=(SameX.same s1).trans (sx.trans (SameX.same s3))
  have tab3:TabR (upd H2 l (.lst (IL os))) Pt:=tab.same s3;refine nm ?_;dsimp only;change tSeq _ _ _ _ (upd H2 l (.lst (IL os)));generalize upd H2 l (.lst (IL os))=H3 at *;have hW3:=hW.samex hT sx3
  have hA3:=hA.samex hT sx3;have hol:os.length=ps.length:=by rw[hO2.1.length_eq,Zy]
  have hon:os.Nodup:=hO2.2.imp fun h e=>by rw[e]at h;omega
  refine Zz014 (fun σ H4=>∃(wt:Addr) (ys:List V) (Es:List Ent),σ=[some (.ref w),some (.ref a),some (.int most),some (.ref l),some (.ref wt),none,none]/\Same H3 H4/\H3 wt=none/\H4 wt=some (.lst ys)/\Bears (EV K H4 ls) ys Es/\RI n ps ls [] Es/\Es.length<=1) ?_ ?_;rotate_left
  ·intro K' hK';refine⟨_,rfl,_,rfl,_,rfl,Yj _,fun i0 hi0=>⟨Yj _,fun u0 hu0=>?_⟩⟩;have v1:=Zz5 (o:=.tup (IL [])) hi0
   have v2:=Zz5 (o:=.tup (IL [])) hu0;have v12:=v1.trans v2
   refine⟨w,a,l,i0,u0,n,ps,kd,ls,os,[],[],rfl,hW3.same v12,hG,hA3.same v12,hll,SqL.of (v12 _ _ h3l),by omega,hon,fun y hy=>(Zo3 hG hO2).mp hy,SqT.of (v2 _ _ Zz1),SqT.of Zz1,Yj _,Yj _,fun y hy=>(by cases hy),ZX2 hG _ (ZK7 hG hO2 fun y hy=>by cases hy),fun hno r H' s' hr0 hr'=>?_,fun g1 g2 ms r tp tr H' hp hs s' hr0 htp0 hr' htp htr=>?_⟩
   ·refine nm ?_;refine hK' _ _ ⟨r,[],[],rfl,v12.trans s',v12.free hr0,hr',⟨rfl,fun i a h=>by cases h⟩,⟨fun _ h=>(by cases h),.nil,fun _ h=>(by cases h),fun W hW=>?_,fun _ h=>(by cases h),.nil⟩,Yj _⟩;exact absurd ⟨hW,fun z hz=>(by cases hz),fun z hz=>(by cases hz)⟩ (Zx8 hG hO2 (I:=[]) (O:=[]) (fun y hy=>by cases hy) .nil hno W)
   ·refine nm ?_;obtain⟨b1,b2⟩:=Zv6 hG hO2 (I:=[]) (O:=[]) (fun y hy=>by cases hy) (fun y hy=>by cases hy) g1 g2 hp hs;have eok:EOk n ps ls ⟨ms,[],[]⟩:=⟨b1,b2,.nil,.nil,fun z hz=>by cases hz⟩
    refine hK' _ _ ⟨r,[.ref tp],[⟨ms,[],[]⟩],rfl,v12.trans s',v12.free hr0,hr',⟨rfl,fun i b h=>?_⟩,⟨fun _ h=>(by cases h),.nil,fun F hF=>(by rw[Yy1.mp hF];exact eok),fun W hW=>.inr ⟨_,Yy1.mpr rfl,hW,fun z hz=>(by cases hz),fun z hz=>(by cases hz)⟩,fun _ _ _ _ _ h=>(by cases h),Y0b _ _⟩,Yy7 _⟩
    match i,h with
    | 0,h =>
     obtain rfl:=Yc h;exact⟨_,rfl,tp,tr,i0,u0,rfl,htp,htr,SqT.of (s' _ _ (v2 _ _ Zz1)),SqT.of (s' _ _ Zz1)⟩
    | i+1,h=>cases h
  rintro σ H4 ⟨wt,ys,Es,rfl,s4,hwt3,hwt4,hB,hR,hEl⟩;refine⟨Yj _,fun td htd=>?_⟩;refine nm ?_;dsimp only;have htd3:H3 td=none:=s4.free htd
  have u5:=Zz5 (o:=.lst []) htd;have nwt:wt≠td:=Zb hwt4 htd
  have h5w:(upd H4 td (.lst [])) wt=some (.lst ys):=u5 _ _ hwt4;refine⟨fun m σ H6=>∃(v6:Option V) (ys zs:List V) (Es:List Ent) (L:List (List Int)),σ=[some (.ref w),some (.ref a),some (.int most),some (.ref l),some (.ref wt),some (.ref td),v6]/\Same H3 H6/\H6 wt=some (.lst ys)/\H6 td=some (.lst zs)/\Bears (EV K H6 ls) ys Es/\Bears (PV H6 ls) zs L/\RI n ps ls L Es/\L.length+m=most.toNat/\Es.length<=1+14 * L.length,⟨most.toNat,none,ys,[],Es,[],rfl,s4.trans u5,h5w,Zz1,hB.imp fun _ _ h=>h.same u5,⟨rfl,fun i a h=>by cases h⟩,hR,by simp,by simpa using hEl⟩,?_⟩;rintro m σ H6 ⟨v6,ys,zs,Es,L,rfl,s6,hw6,ht6,hBy,hBz,hRI,hm,hEs⟩;have hyl:ys.length=Es.length:=hBy.1
  have hzl:zs.length=L.length:=hBz.1;have done:(Es=[]\/L.length=most.toNat)->Q (.ref td) H6:=fun hd=>by
   refine q zs L td H6 ⟨hRI.tr,hRI.asc,by omega,fun W hW=>?_⟩ hBz (sx3.trans (SameX.same s6)) (tab3.same s6) ?_ ht6
   ·rcases hRI.cov W hW with c | ⟨F,c1,c2⟩
    ·exact .inl c
    ·rcases hd with d | d
     ·rw[d]at c1;cases c1
     ·exact .inr ⟨d,hRI.beh F c1 W c2⟩
   ·cases hq:H td with
    | none=>rfl
    | some u =>
     by_cases c:td=Pt
     ·obtain⟨pt,e,_⟩:=tab3;rw[c,e]at htd3;cases htd3
     ·have:=sx3 td u c hq
      rw[htd3]at this;cases this
  refine⟨_,rfl,wt,ys,rfl,.inl (SqL.of hw6),_,_,rfl,rfl,_,rfl,?_⟩;refine itd2 (fun hc=>?_) (fun hc=>?_);rotate_left
  ·refine iteF ?_;refine⟨_,rfl,done (.inl ?_)⟩;exact YK.mp (by omega)
  refine⟨_,rfl,td,zs,rfl,.inl (SqL.of ht6),_,rfl,_,_,rfl,rfl,_,rfl,?_⟩;refine itd2 (fun hc2=>?_) (fun hc2=>?_);rotate_left
  ·exact⟨_,rfl,done (.inr (by omega))⟩
  refine⟨_,fun σ' H' h=>h,?_⟩;have nd:(Es.map fun E=>(sumL ls E.T,E.T)).Nodup:=by refine Yy00.mpr fun i j hi hj hij e=>?_;rw[List.getElem_map,List.getElem_map]at e;rw[Yb]at hi hj;exact hRI.unlike (Yy0 hi) (Yy0 hj) (Yu hij) (Prod.mk.inj e).2
  refine⟨_,rfl,wt,ys,Es.map fun E=>(sumL ls E.T,E.T),false,rfl,SqL.of hw6,by omega,by rw[Yb];exact hyl,fun i x hx=>?_,fun _=>nd,fun i tp x hx hy hmin=>?_⟩
  ·rw[Ym]at hx;obtain⟨E,hE,rfl⟩:=Yy20.mp hx;obtain⟨v,hv,tp,tr,ti,to,rfl,h1,h2,_⟩:=hBy.2 i E hE;exact⟨tp,tr,[.ref ti,.ref to],hv,SqT.of h1,SqT.of h2,fun z=>by cases z⟩
  rw[Ym]at hx;obtain⟨E,hE,rfl⟩:=Yy20.mp hx;obtain⟨v,hv,hEV⟩:=hBy.2 i E hE;obtain rfl:v=.ref tp:=Yc (hv.symm.trans hy);have hmn:∀ F∈Es,¬ pl ls F.T E.T:=fun F hF h=>by
   have:=hmin _ (Yr.mpr ⟨F,hF,rfl⟩)
   unfold pl at h;rw[this]at h;cases h
  have okE:=hRI.ok E (Yy6 hE);have il:i<ys.length:=(Yy2.mp hy).1
  have uniq:∀(k:Nat) (b:Addr) (F:Ent),ys[k]?=some (.ref b)->Es[k]?=some F->b=tp->k=i:=fun k b F hb hF e=>Yf fun hn=>by
   obtain⟨v',hv',hF'⟩:=hBy.2 k F hF;obtain rfl:v'=.ref b:=Yc (hv'.symm.trans hb);subst e;obtain⟨_,r1,_,_,e1,a1,a2,_⟩:=hF';obtain⟨_,r2,_,_,e2,b1,b2,_⟩:=hEV;cases e1;cases e2;rw[a1]at b1;have e3:=Yc b1
   injection e3 with e3;injection e3 with _ e3;injection e3 with e3 _;injection e3 with e3;subst e3;rw[a2]at b2;have e4:=Yc b2
   injection e4 with e4;exact hRI.unlike hF hE hn ((List.map_inj_right (f:=V.int) (fun x y h=>by injection h)).mp e4)
  refine nm ?_;dsimp only;refine⟨_,rfl,.inl ⟨rfl,_,SqL.of hw6⟩,_,rfl,2,wt,ys,.ref tp,fun b=>decide (b=tp),i,tp,rfl,rfl,hw6,by decide,fun v hv'=>?_,hy,Yl rfl,fun k b hk hb=>?_,?_⟩
  ·obtain⟨k,hk⟩:=YZ hv';obtain⟨F,hF,hFV⟩:=hBy.at hk;obtain⟨b,rfl⟩:∃ b,v=.ref b:=let ⟨b,_,_,_,e,_⟩:=hFV;⟨b,e⟩
   refine⟨b,rfl,?_⟩;have eb:decide (F=E)=decide (b=tp):=by
    rw[Y1X];constructor
    ·intro e;have ki:k=i:=Yf fun hn=>hRI.unlike hF hE hn (by rw[e])
     subst ki;rw[hy]at hk;cases hk;rfl
    ·intro e;have ki:=uniq k b F hk hF e
     subst ki;rw[hF]at hE;exact Yc hE
   show EqD K H6 2 (.ref b) (.ref tp) (decide (b=tp));rw[<- eb];exact ZR11 hFV hEV
  ·obtain⟨F,hF,_⟩:=hBy.at hb;refine YW fun e=>?_
   have:=uniq k b F hb hF e
   omega
  have s7:Same H3 (upd H6 wt (.lst (ys.eraseIdx i))):=Zv hwt3 s6;have hw7:(upd H6 wt (.lst (ys.eraseIdx i))) wt=some (.lst (ys.eraseIdx i)):=Zz1
  have ht7:(upd H6 wt (.lst (ys.eraseIdx i))) td=some (.lst zs):=by rw[Zc (Yy03 nwt)];exact ht6
  have hEV7:=EV.put (o:=.lst (ys.eraseIdx i)) hw6 hEV;have hBy7:Bears (EV K (upd H6 wt (.lst (ys.eraseIdx i))) ls) (ys.eraseIdx i) (Es.eraseIdx i):=(hBy.erase i).imp fun _ _ h=>EV.put hw6 h
  have hBz7:Bears (PV (upd H6 wt (.lst (ys.eraseIdx i))) ls) zs L:=hBz.imp fun _ _ h=>PV.put hw6 h;change tSeq _ _ _ _ (upd H6 wt (.lst (ys.eraseIdx i)));generalize upd H6 wt (.lst (ys.eraseIdx i))=H7 at *;obtain⟨_,tr,ti,to,e0,c1,c2,c3,c4⟩:=id hEV7;cases e0;refine⟨_,rfl,.inl ⟨rfl,_,SqL.of ht7⟩,_,rfl,tp,_,0,.int (sumL ls E.T),rfl,rfl,SqT.of c1,rfl,_,rfl,tp,_,1,.ref tr,rfl,rfl,SqT.of c1,rfl,(by decide:2<=sizeLine),fun t2 ht2=>?_⟩;have u8:=Zz5 (o:=.tup [.int (sumL ls E.T),.ref tr]) ht2
  have ht8:=u8 _ _ ht7;have z1:100000<=sizeLine:=by decide
  refine⟨td,zs,.ref t2,rfl,rfl,ht8,by omega,?_⟩;have s9:Same H3 (upd (upd H7 t2 (.tup [.int (sumL ls E.T),.ref tr])) td (.lst (zs++[.ref t2]))):=Zv htd3 (s7.trans u8)
  have hw9:(upd (upd H7 t2 (.tup [.int (sumL ls E.T),.ref tr])) td (.lst (zs++[.ref t2]))) wt=some (.lst (ys.eraseIdx i)):=by rw[Zc nwt];exact u8 _ _ hw7
  have ht9:(upd (upd H7 t2 (.tup [.int (sumL ls E.T),.ref tr])) td (.lst (zs++[.ref t2]))) td=some (.lst (zs++[.ref t2])):=Zz1;have hEV9:=EV.put (o:=.lst (zs++[.ref t2])) ht8 (hEV7.same u8)
  have hBy9:Bears (EV K (upd (upd H7 t2 (.tup [.int (sumL ls E.T),.ref tr])) td (.lst (zs++[.ref t2]))) ls) (ys.eraseIdx i) (Es.eraseIdx i):=hBy7.imp fun _ _ h=>EV.put ht8 (h.same u8);have hPV9:PV (upd (upd H7 t2 (.tup [.int (sumL ls E.T),.ref tr])) td (.lst (zs++[.ref t2]))) ls (.ref t2) E.T:=PV.put ht8 ⟨t2,tr,rfl,Zz1,u8 _ _ c2⟩
  have hBz9:Bears (PV (upd (upd H7 t2 (.tup [.int (sumL ls E.T),.ref tr])) td (.lst (zs++[.ref t2]))) ls) (zs++[.ref t2]) (L++[E.T]):=(hBz7.imp fun _ _ h=>PV.put ht8 (h.same u8)).snoc hPV9;generalize upd (upd H7 t2 (.tup [.int (sumL ls E.T),.ref tr])) td (.lst (zs++[.ref t2]))=H9 at *;refine⟨_,rfl,.inl ⟨rfl,_,SqL.of hw9⟩,_,rfl,_,rfl,_,rfl,_,rfl,w,a,l,tp,n,ps,kd,ls,os,E,rfl,hW3.same s9,hG,hA3.same s9,hll,SqL.of (s9 _ _ h3l),hO2,hEV9,okE,fun ws Fs r H10 hFB hFl hBw s10 hr0 hr10=>?_⟩;have hwl:ws.length=Fs.length:=hBw.1
  have hel:(ys.eraseIdx i).length=ys.length - 1:=by rw[Y0S,if_pos il]
  have hel2:(Es.eraseIdx i).length=Es.length - 1:=by rw[Y0S,if_pos (by omega)]
  have hw10:=s10 _ _ hw9;refine⟨wt,r,_,ws,rfl,rfl,hw10,hr10,by omega,?_⟩;refine⟨m - 1,by omega,_,ys.eraseIdx i++ws,zs++[.ref t2],Es.eraseIdx i++Fs,L++[E.T],rfl,Zv hwt3 (s9.trans s10),Zz1,?_,?_,?_,hRI.step hG hE hmn hFB,?_,?_⟩
  ·rw[Zc (Yy03 nwt)];exact s10 _ _ ht9
  ·exact((hBy9.imp fun _ _ h=>h.same s10).app hBw).imp fun _ _ h=>EV.put hw10 h
  ·exact hBz9.imp fun _ _ h=>PV.put hw10 (h.same s10)
  ·rw[Yy8,YM];omega
  ·rw[Yy8,Yy8,YM];omega
def spZE(K:PySem.W.Frag):Sp:=fun vs H Q _=>∃(a:Addr) (ns:List Int) (k:Int),vs=[.ref a,.int k]/\SqL K H a (IL ns)/\0<=k/\∀ r:Int,Q (.int r) H
theorem scZE:FnScope ["script","k"] ["script","k"] (Zz7 sZE):=⟨rfl,rfl,rfl,by decide +kernel,rfl,by decide +kernel,by decide +kernel⟩
theorem okZE (T:Txt K mg t):FnOk P w K mg base CX0 1 t.aZE t.dZE ["script","k"] (spZE K):=by
 refine T.fZE.ok scZE (fun vs H Q E h=>?_) (fun cdv A outer s H vs Q E hr h=>?_)
 ·obtain⟨a,ns,k,rfl,_⟩:=h;rfl
 ·obtain⟨a,ns,k,rfl,hS,hk,q⟩:=h;refine⟨_,(Zz2 (Zj1 (Zg Zz16 (pv 1) (Zl (Zk K) (by rfl) T.n_len Boot.«len» (Zz0 (pv 0) Zz3)) (Zr _))
   (Zz6 (Zo (ZP (Zm K) (pv 0) (pv 1) (fun _ _=>rfl))))
   Zs)
   (Zz6 (Zo Zz9))),?_⟩
  refine⟨_,rfl,_,rfl,a,_,rfl,.inl hS,_,_,rfl,rfl,_,rfl,?_⟩;refine ite2 (fun hc=>?_) (fun _=>?_)
  ·have hc:=Yt hc;rw[Zz4]at hc;obtain⟨z,hz⟩:∃ z,ns[k.toNat]?=some z:=⟨_,Yy0 (by omega)⟩;exact⟨_,rfl,_,rfl,a,_,k,.int z,rfl,rfl,hS,ZO (n:=k.toNat) (by omega) (by rw[Ym,hz];rfl),q z⟩
  ·exact q 0
def spZF:Sp:=fun vs H Q _=>∃(c k:Int),vs=[.int c,.int k]/\∀ r:Int,0<=r->r<2147483629->Q (.int r) H
theorem scZF:FnScope ["cell","k","m"] ["cell","k"] (Zz7 sZF):=⟨rfl,rfl,rfl,by decide +kernel,rfl,by decide +kernel,by decide +kernel⟩
theorem okZF (T:Txt K mg t):FnOk P w K mg base CX0 1 t.aZF t.dZF ["cell","k"] spZF:=by
 refine T.fZF.ok scZF (fun vs H Q E h=>?_) (fun cdv A outer s H vs Q E hr h=>?_)
 ·obtain⟨c,k,rfl,_⟩:=h;rfl
 ·obtain⟨c,k,rfl,q⟩:=h;refine⟨_,(Zz2 (Zf (i:=2) scZF.nd rfl (Or.inl rfl) (Zj ZC (Zj ZB1 (Zj Zz01 (Zj Zz01 (Zj ZC (pv 0) (Zj ZR1 Zz9 Zz9)) (Zj ZB1 Zz9 (pv 1))) Zz9) Zz9) Zz9))
   (Zz2 (Zf (i:=2) scZF.nd rfl (Or.inl rfl) (Zj ZC (Zj ZB1 (pv 2) (pv 2)) Zz9))
   (Zz6 (Zo (Zj Zm1 (Zj ZC (Zj ZB1 (Zj Zz01 (pv 2) (Zj ZB1 Zz9 (Zj Zz01 (pv 1) Zz9))) Zz9) Zz9) Zz9))))),?_⟩
  have m0:-(2 ^ 64)<(c % 10 ^ 60+977 * k+1) * 48271 % 2147483647:=by omega
  have m1:(c % 10 ^ 60+977 * k+1) * 48271 % 2147483647<2 ^ 64:=by omega
  refine⟨_,rfl,_,_,rfl,rfl,⟨by decide,by decide,by decide⟩,_,_,rfl,rfl,(by show(0:Int)<10 ^ 60;decide),_,rfl,_,_,rfl,rfl,.inl ⟨by decide,by decide⟩,_,_,rfl,rfl,_,_,rfl,rfl,_,_,rfl,rfl,.inr ⟨by decide,by decide⟩,_,_,rfl,rfl,(by show(0:Int)<2147483647;decide),?_⟩;refine⟨_,rfl,_,rfl,_,_,rfl,rfl,.inl ⟨m0,m1⟩,_,_,rfl,rfl,(by show(0:Int)<2147483629;decide),?_⟩;refine⟨_,rfl,_,rfl,_,_,rfl,rfl,_,_,rfl,rfl,.inl ⟨by decide,by decide⟩,_,_,rfl,rfl,_,_,rfl,rfl,.inr ⟨by decide,by decide⟩,_,_,rfl,rfl,(by show(0:Int)<2147483629;decide),_,_,rfl,rfl,⟨by decide,by decide⟩,?_⟩;refine q _ ?_ ?_
  ·refine Int.ediv_nonneg (Y0B _ (by decide)) (by decide)
  ·refine Int.lt_of_le_of_lt (Int.ediv_le_self _ (Y0B _ (by decide))) (Y0q _ (by decide))
def spZG(K:PySem.W.Frag):Sp:=fun vs H Q _=>∃(a:Addr) (ns:List Int) (st m:Nat),vs=[.ref a,.int st,.int m]/\SqL K H a (IL ns)/\ns.length<=63/\st<=63/\1<=m/\m<=30/\∀(r:Addr) (ms:List Int) (H':Hp),Same H H'->H r=none->H' r=some (.lst (IL ms))->ms.length<=m->Q (.ref r) H'
theorem scZG:FnScope ["script","start","most","told","k","cell"] ["script","start","most"] (Zz7 sZG):=⟨rfl,rfl,rfl,by decide +kernel,rfl,by decide +kernel,by decide +kernel⟩
theorem okZG (T:Txt K mg t):FnOk P w K mg base CX0 1 t.aZG t.dZG ["script","start","most"] (spZG K):=by
 refine T.fZG.ok scZG (fun vs H Q E h=>?_) (fun cdv A outer s H vs Q E hr h=>?_)
 ·obtain⟨a,ns,st,m,rfl,_⟩:=h;rfl
 ·obtain⟨a,ns,st,m,rfl,hS,hn,hst,m1,m30,q⟩:=h;refine⟨_,(Zz2 (Zf (i:=3) scZG.nd rfl (Or.inl rfl) (Zz81 Zz3))
   (Zz2 (Ze1 YT rfl (Zp7 rfl T.n_range (Zz0 (pv 1) (Zz0 (Zl (Zk K) (by rfl) T.n_len Boot.«len» (Zz0 (pv 0) Zz3)) Zz3))) (Ze (i:=4) scZG.nd rfl (Or.inl rfl))
   (Zz2 (Zf (i:=5) scZG.nd rfl (Or.inl rfl) (Zj ZC (ZP (Zm K) (pv 0) (pv 4) (fun _ _=>rfl)) (Zj ZR1 Zz9 Zz9)))
   (Zz6 (Zj1 (Zg Zz16 (Zl (Zk K) (by rfl) T.n_len Boot.«len» (Zz0 (pv 3) Zz3)) (pv 2) (Zr _))
   (Zz6 (ZA (Zf1 K YB YR YQ ZG (pv 3) (Zz0 (pv 5) Zz3))))
   (Zz6 (Zi9 (Zj ZC (Zj Zz01 (Zj ZB1 (ZP (Zm K) (pv 3) (Zj ZC (pv 4) (pv 2)) (fun _ _=>rfl)) Zz9) (pv 5)) (Zj ZR1 Zz9 Zz9)) (Zz511 (pv 3) (Zj ZC (pv 4) (pv 2)) ZG1)))))))
   (Zz6 (Zo (pv 3))))),?_⟩
  have P18:(0:Int)<10 ^ (18:Int).toNat:=by decide
  have M0:(0:Int)<(m:Int):=by omega
  refine⟨Yj _,fun tA htA=>?_⟩;have s0:=Zz5 (o:=.lst []) htA
  refine⟨_,rfl,_,rfl,a,_,rfl,.inl (s0.seq hS),(st:Int),((IL ns).length:Int),rfl,⟨by omega,by omega,by omega,by rw[Zz4];omega⟩,?_⟩;refine ZZ2 (lo:=(st:Int)) (n:=(((IL ns).length:Int) - (st:Int)).toNat) (fun j σ H4=>∃(fs:List Int) (v4 v5:Option V),σ=[some (.ref a),some (.int st),some (.int m),some (.ref tA),v4,v5]/\Same H H4/\H4 tA=some (.lst (IL fs))/\fs.length<=m) ⟨[],none,none,rfl,s0,Zz1,Yj _⟩ ?_ ?_
  ·rintro j σ H4 hj ⟨fs,v4,v5,rfl,s4,h4,eg⟩;rw[Zz4]at hj;obtain⟨z,hz⟩:∃ z,ns[st+j]?=some z:=⟨_,Yy0 (by omega)⟩;refine⟨_,rfl,_,rfl,a,_,_,_,rfl,rfl,s4.seq hS,ZO (n:=st+j) (by omega) (Za3 hz),_,_,rfl,rfl,⟨by decide,by decide,by decide⟩,_,_,rfl,rfl,P18,?_⟩;refine⟨_,rfl,tA,_,rfl,.inl (SqL.of h4),_,rfl,_,_,rfl,rfl,_,rfl,?_⟩;rw[Zz4];refine itd2 (fun hc=>?_) (fun hc=>?_)
   ·refine⟨_,rfl,.inl ⟨rfl,_,SqL.of h4⟩,_,rfl,tA,_,_,rfl,rfl,h4,Zn (by rw[Zz4];omega),?_⟩;rw[<- ZR];exact⟨fs++[_],_,_,rfl,Zv htA s4,Zz1,by rw[Yy8];show fs.length+1<=m;omega⟩
   ·have x0:0<=((st:Int)+(j:Int)) % (m:Int):=Y0B _ (by omega);have x1:((st:Int)+(j:Int)) % (m:Int)<(m:Int):=Y0q _ M0
    obtain⟨f,hf⟩:∃ f,fs[(((st:Int)+(j:Int)) % (m:Int)).toNat]?=some f:=⟨_,Yy0 (by omega)⟩;refine⟨_,rfl,_,rfl,_,rfl,_,_,rfl,rfl,M0,tA,_,_,.int f,rfl,rfl,SqL.of h4,ZO (n:=(((st:Int)+(j:Int)) % (m:Int)).toNat) (by show _=((st:Int)+(j:Int)) % (m:Int);omega) (Za3 hf),_,_,rfl,rfl,.inr ⟨by decide,by decide⟩,_,rfl,_,_,rfl,rfl,_,_,rfl,rfl,⟨by decide,by decide,by decide⟩,_,_,rfl,rfl,P18,?_⟩;refine⟨_,rfl,_,rfl,_,rfl,_,_,rfl,rfl,M0,tA,_,_,(((st:Int)+(j:Int)) % (m:Int)).toNat,rfl,rfl,h4,?_,?_⟩
    ·rw[Zz4];unfold ixN;rw[if_pos x0,if_pos (by omega)]
    ·refine⟨fs.set (((st:Int)+(j:Int)) % (m:Int)).toNat ((f * 10007+z % 10 ^ (18:Int).toNat) % 10 ^ (18:Int).toNat),_,_,rfl,Zv htA s4,?_,by rw[Y0A];exact eg⟩;rw[Zz1];exact Yy04 (fun l=>some (HO.lst l)) (List.map_set ..).symm
  rintro σ H4 ⟨fs,v4,v5,rfl,s4,h4,eg⟩;exact⟨_,rfl,q tA fs H4 s4 htA h4 eg⟩
def spZH:Sp:=fun vs H Q _=>∃(c mp mt:Int),vs=[.int c,.int mp,.int mt]/\1<=mp/\mp<=14/\0<=mt/\mt<=30 /\
 ∀(r l:Addr) (n:Int) (xs:List V) (ps:List (Int × Int)) (H':Hp),Same H H'->H' r=some (.tup [.int n,.ref l])->H l=none->H' l=some (.lst xs)->PairsV H' xs ps->Zu n ps->n<=mp->(ps.length:Int)<=mt->Q (.ref r) H'
theorem scZH:FnScope ["cell","most_places","most_ties","places","whole","ties","rest","k"] ["cell","most_places","most_ties"] (Zz7 sZH):=⟨rfl,rfl,rfl,by decide +kernel,rfl,by decide +kernel,by decide +kernel⟩
theorem okZH (T:Txt K mg t):FnOk P w K mg base CX0 2 t.aZH t.dZH ["cell","most_places","most_ties"] spZH:=by
 refine T.fZH.ok scZH (fun vs H Q E h=>?_) (fun cdv A outer s H vs Q E hr h=>?_)
 ·obtain⟨c,mp,mt,rfl,_⟩:=h;rfl
 ·obtain⟨c,mp,mt,rfl,p1,p14,t0,t30,q⟩:=h;refine⟨_,(Zz2 (Zf (i:=3) scZH.nd rfl (Or.inl rfl) (Zj Zz01 Zz9 (Zj ZC (pv 0) (pv 1))))
   (Zz2 (Zf (i:=4) scZH.nd rfl (Or.inl rfl) (Zj Zm1 (pv 0) (pv 1)))
   (Zz2 (Zf (i:=5) scZH.nd rfl (Or.inl rfl) (Zz81 Zz3))
   (Zz2 (Zf (i:=6) scZH.nd rfl (Or.inl rfl) (Zj Zm1 (pv 4) (Zj Zz01 (pv 2) Zz9)))
   (Zz2 (Ze1 YT rfl (ZW1 rfl T.n_range (Zz0 (Zj ZC (pv 4) (Zj Zz01 (pv 2) Zz9)) Zz3)) (Ze (i:=7) scZH.nd rfl (Or.inl rfl))
   (Zz2 (Zj1 (Zg (Zd11 K) (pv 6) (Zz81 (Zz0 Zz9 (Zz0 (Zh12 Za7 Zz9) Zz3))) rfl)
   (Zz6 (ZA (Zf1 K YB YR YQ ZG (pv 5) (Zz0 (ZN (Zz0 (Zj ZC (Za (okZF T) (hr.mono (by decide)) rfl T.mZF T.fZF.kp T.bZF .nil Zq (Zz0 (pv 4) (Zz0 (Zj ZB1 Zz9 (pv 7)) Zz3))) (pv 3)) (Zz0 (Zj ZC (Za (okZF T) (hr.mono (by decide)) rfl T.mZF T.fZF.kp T.bZF .nil Zq (Zz0 (pv 4) (Zz0 (Zj Zz01 (Zj ZB1 Zz9 (pv 7)) Zz9) Zz3))) (pv 3)) Zz3))) Zz3))))
   (Zz6 (ZA (Zf1 K YB YR YQ ZG (pv 5) (Zz0 (ZN (Zz0 (Zj ZC (pv 6) (pv 3)) (Zz0 (Zj ZC (Zj Zm1 (pv 6) (pv 3)) (pv 3)) Zz3))) Zz3)))))
   (Zz6 (Zf (i:=6) scZH.nd rfl (Or.inl rfl) (Zj Zm1 (pv 6) (Zj ZB1 (pv 3) (pv 3)))))))
   (Zz6 (Zo (ZN (Zz0 (pv 3) (Zz0 (pv 5) Zz3)))))))))),?_⟩
  have two:2<=sizeLine:=by decide
  have c0:0<=c % mp:=Y0B _ (by omega);have c1:c % mp<mp:=Y0q _ (by omega)
  refine⟨_,rfl,_,rfl,_,_,rfl,rfl,(by show 0<mp;omega),_,_,rfl,rfl,?_⟩;refine⟨_,rfl,_,rfl,_,_,rfl,rfl,⟨by show 0<mp;omega,by show mp<1073741824;omega⟩,?_⟩;refine⟨Yj _,fun l hl=>?_⟩;refine⟨_,rfl,_,rfl,_,_,rfl,rfl,_,_,rfl,rfl,⟨by show 0<mt+1;omega,by show mt+1<1073741824;omega⟩,?_⟩;have e0:0<=c / mp % (mt+1):=Y0B _ (by omega)
  have e1:c / mp % (mt+1)<mt+1:=Y0q _ (by omega);obtain⟨n,hn⟩:∃ n,n=1+c % mp:=⟨_,rfl⟩;have n1:1<=n:=by omega
  have n14:n<=mp:=by omega
  have nn1:0<n * n:=Int.mul_pos (by omega) (by omega);have nn2:n * n<=14 * 14:=Int.mul_le_mul (by omega) (by omega) (by omega) (by decide)
  refine⟨_,rfl,_,rfl,_,_,rfl,rfl,_,_,rfl,rfl,(by show 0<mt+1;omega),c / mp % (mt+1),rfl,by omega,by omega,ZZ2 (lo:=0) (n:=(c / mp % (mt+1)).toNat) (fun i σ H2=>∃(z:Int) (xs:List V) (ps:List (Int × Int)) (v:Option V),σ=[some (.int c),some (.int mp),some (.int mt),some (.int n),some (.int (c / mp)),some (.ref l),some (.int z),v]/\Same H H2/\H2 l=some (.lst xs)/\PairsV H2 xs ps/\ps.length=i/\∀ p∈ps,0<=p.1/\p.1<n/\0<=p.2/\p.2<n)
   ⟨_,[],[],none,by rw[hn];rfl,Zz5 hl,Zz1,PairsV.nil,rfl,fun _ h=>(by cases h)⟩ ?_ ?_⟩
  ·rintro i σ H2 hi ⟨z,xs,ps,v,rfl,s2,h2,hP,hlp,hb⟩;have xl:xs.length<sizeLine:=Zn (by rw[hP.1];omega)
   have put:∀(a b zz:Int) (H3:Hp) (tp:Addr) (vv:Option V),Same H2 H3->H3 tp=none->0<=a->a<n->0<=b->b<n->∃(z:Int) (xs2:List V) (ps:List (Int × Int)) (v:Option V),[some (.int c),some (.int mp),some (.int mt),some (.int n),some (.int (c / mp)),some (.ref l),some (.int zz),vv]=[some (.int c),some (.int mp),some (.int mt),some (.int n),some (.int (c / mp)),some (.ref l),some (.int z),v]/\Same H (upd (upd H3 tp (.tup [.int a,.int b])) l (.lst (xs++[.ref tp])))/\(upd (upd H3 tp (.tup [.int a,.int b])) l (.lst (xs++[.ref tp]))) l=some (.lst xs2)/\PairsV (upd (upd H3 tp (.tup [.int a,.int b])) l (.lst (xs++[.ref tp]))) xs2 ps/\ps.length=i+1/\∀ p∈ps,0<=p.1/\p.1<n/\0<=p.2/\p.2<n:=by
    intro a b zz H3 tp vv s3 htp a0 a1 b0 b1;have s4:=Zz5 (o:=.tup [.int a,.int b]) htp
    have hl4:=s4 _ _ (s3 _ _ h2);refine⟨zz,xs++[.ref tp],ps++[(a,b)],vv,rfl,Zv hl ((s2.trans s3).trans s4),Zz1,?_,by rw[Yy8,hlp];rfl,fun p hp=>?_⟩
    ·exact(((hP.same s3).same s4).snoc ⟨tp,rfl,Zz1⟩).mut hl4
    ·rcases Yy9.mp hp with h | h
     ·exact hb p h
     ·rw[Yy1.mp h];exact⟨a0,a1,b0,b1⟩
   have md:∀ z:Int,0<=z % n/\z % n<n:=fun z=>⟨Y0B _ (by omega),Y0q _ (by omega)⟩;have N0:(0:Int)<n:=by omega
   have ND:(0:Int)<n/\n<1073741824:=by omega
   have NN:(0:Int)<n * n/\n * n<1073741824:=by omega
   have NM:-(2 ^ 64)<n/\n<2 ^ 64:=by omega
   refine⟨_,rfl,_,rfl,two,fun lp hlp=>?_⟩;have s3:=Zz5 (o:=.lst [.int 0,.int (-1)]) hlp
   refine⟨lp,_,rfl,.inl (SqL.of Zz1),rfl,rfl,_,rfl,?_⟩;have h3:=s3 _ _ h2
   refine itb (fun _=>?_) (fun _=>?_)
   ·refine⟨_,rfl,.inl ⟨rfl,_,SqL.of h3⟩,?_⟩;refine⟨_,rfl,_,rfl,_,_,rfl,rfl,.inl ⟨by decide,by decide⟩,_,_,rfl,fun r1 _ _=>⟨_,rfl,_,_,rfl,rfl,N0,?_⟩⟩;refine⟨_,rfl,_,rfl,_,_,rfl,rfl,.inl ⟨by decide,by decide⟩,_,_,rfl,rfl,_,_,rfl,fun r2 _ _=>⟨_,rfl,_,_,rfl,rfl,N0,two,fun tp htp=>?_⟩⟩;refine⟨l,xs,_,rfl,rfl,(Zz5 htp) _ _ h3,xl,?_⟩;refine⟨_,rfl,_,rfl,_,rfl,_,_,rfl,rfl,.inl NM,_,_,rfl,rfl,NN,?_⟩;exact put _ _ _ _ tp _ s3 htp (md _).1 (md _).2 (md _).1 (md _).2
   ·refine⟨_,rfl,.inl ⟨rfl,_,SqL.of h3⟩,?_⟩;refine⟨_,rfl,_,rfl,_,_,rfl,rfl,N0,_,rfl,_,rfl,_,_,rfl,rfl,ND,_,rfl,_,_,rfl,rfl,N0,two,fun tp htp=>?_⟩;refine⟨l,xs,_,rfl,rfl,(Zz5 htp) _ _ h3,xl,?_⟩;refine⟨_,rfl,_,rfl,_,rfl,_,_,rfl,rfl,.inl NM,_,_,rfl,rfl,NN,?_⟩;exact put _ _ _ _ tp _ s3 htp (md _).1 (md _).2 (md _).1 (md _).2
  ·rintro σ H2 ⟨z,xs,ps,v,rfl,s2,h2,hP,hlp,hb⟩;refine⟨_,rfl,_,rfl,two,fun r hr=>?_⟩;have s3:=Zz5 (o:=.tup [.int n,.ref l]) hr
   exact q r l n xs ps _ (s2.trans s3) Zz1 hl (s3 _ _ h2) (hP.same s3) ⟨by omega,by omega,by omega,hb⟩ (by omega) (by omega)
def spZI(K:PySem.W.Frag):Sp:=fun vs H Q _=>∃(a:Addr) (ns:List Int) (mp:Int) (mt:Nat),vs=[.ref a,.int mp,.int mt]/\SqL K H a (IL ns)/\ns.length<=63/\1<=mp/\mp<=14/\1<=mt/\mt<=30 /\
 ∀(r l:Addr) (n:Int) (xs:List V) (ps:List (Int × Int)) (H':Hp),Same H H'->H' r=some (.tup [.int n,.ref l])->H l=none->H' l=some (.lst xs)->PairsV H' xs ps->Zu n ps->n<=mp->(ps.length:Int)<=mt->Q (.ref r) H'
theorem scZI:FnScope ["script","most_places","most_ties","head","places","ties","k","number","one","other"] ["script","most_places","most_ties"] (Zz7 sZI):=⟨rfl,rfl,rfl,by decide +kernel,rfl,by decide +kernel,by decide +kernel⟩
theorem okZI (T:Txt K mg t):FnOk P w K mg base CX0 3 t.aZI t.dZI ["script","most_places","most_ties"] (spZI K):=by
 refine T.fZI.ok scZI (fun vs H Q E h=>?_) (fun cdv A outer s H vs Q E hr h=>?_)
 ·obtain⟨a,ns,mp,mt,rfl,_⟩:=h;rfl
 ·obtain⟨a,ns,mp,mt,rfl,hS,hn63,p1,p14,t1,t30,q⟩:=h;refine⟨_,(Zz2 (Zf (i:=3) scZI.nd rfl (Or.inl rfl) (Za (okZE T) (hr.mono (by decide)) rfl T.mZE T.fZE.kp T.bZE .nil Zq (Zz0 (pv 0) (Zz0 Zz9 Zz3))))
   (Zz2 (Zj1 (Zg Zd5 (Zj ZC (pv 3) Zz9) Zz9 (Zr _))
   (Zz6 (Zo (Za (okZH T) (hr.mono (by decide)) rfl T.mZH T.fZH.kp T.bZH .nil Zq (Zz0 (Za (okZE T) (hr.mono (by decide)) rfl T.mZE T.fZE.kp T.bZE .nil Zq (Zz0 (pv 0) (Zz0 Zz9 Zz3))) (Zz0 (pv 1) (Zz0 (pv 2) Zz3))))))
   Zs)
   (Zz2 (Zf (i:=4) scZI.nd rfl (Or.inl rfl) (Zj Zz01 Zz9 (Zj ZC (Zj Zm1 (pv 3) Zz9) (pv 1))))
   (Zz2 (Zf (i:=5) scZI.nd rfl (Or.inl rfl) (Zz81 Zz3))
   (Zz2 (Ze1 YT rfl (Zw1 K rfl T.n_enumerate (Zz0 (Za (okZG T) (hr.mono (by decide)) rfl T.mZG T.fZG.kp T.bZG .nil Zq (Zz0 (pv 0) (Zz0 Zz9 (Zz0 (pv 2) Zz3)))) Zz3)) (Zz71 (n:=2) K rfl (Zp (Ze (i:=6) scZI.nd rfl (Or.inl rfl)) (Zp (Ze (i:=7) scZI.nd rfl (Or.inl rfl)) Zz61)))
   (Zz2 (Zf (i:=8) scZI.nd rfl (Or.inl rfl) (Zj ZC (Za (okZF T) (hr.mono (by decide)) rfl T.mZF T.fZF.kp T.bZF .nil Zq (Zz0 (pv 7) (Zz0 Zz9 Zz3))) (pv 4)))
   (Zz2 (Zf (i:=9) scZI.nd rfl (Or.inl rfl) (Zj ZC (Za (okZF T) (hr.mono (by decide)) rfl T.mZF T.fZF.kp T.bZF .nil Zq (Zz0 (pv 7) (Zz0 Zz9 Zz3))) (pv 4)))
   (Zz2 (Zj1 (PW.pt (Zf9 (Zg Zz16 (Zj Zz01 (pv 6) Zz9) (pv 4) (Zr _)) (ZQ5 (Zg Ze11 (Zj ZC (Za (okZF T) (hr.mono (by decide)) rfl T.mZF T.fZF.kp T.bZF .nil Zq (Zz0 (pv 7) (Zz0 Zz9 Zz3))) Zz9) Zz9 (Zr _)))))
   (Zz2 (Zf (i:=8) scZI.nd rfl (Or.inl rfl) (Zj ZC (Za (okZF T) (hr.mono (by decide)) rfl T.mZF T.fZF.kp T.bZF .nil Zq (Zz0 (pv 7) (Zz0 Zz9 Zz3))) (Zj Zz01 (pv 6) Zz9)))
   (Zz6 (Zf (i:=9) scZI.nd rfl (Or.inl rfl) (Zj Zz01 (pv 6) Zz9))))
   Zs)
   (Zz6 (ZA (Zf1 K YB YR YQ ZG (pv 5) (Zz0 (ZP (Zm K) (Zz81 (Zz0 (ZN (Zz0 (pv 8) (Zz0 (pv 9) Zz3))) (Zz0 (ZN (Zz0 (pv 9) (Zz0 (pv 8) Zz3))) Zz3))) (Zj ZC (Za (okZF T) (hr.mono (by decide)) rfl T.mZF T.fZF.kp T.bZF .nil Zq (Zz0 (pv 7) (Zz0 Zz9 Zz3))) Zz9) (fun _ _=>rfl)) Zz3))))))))
   (Zz6 (Zo (ZN (Zz0 (pv 4) (Zz0 (pv 5) Zz3)))))))))),?_⟩
  have two:2<=sizeLine:=by decide
  refine⟨_,rfl,a,ns,0,rfl,hS,by decide,fun hd=>?_⟩;refine⟨_,rfl,_,_,rfl,rfl,(by show(0:Int)<2;decide),rfl,_,rfl,?_⟩;rw[ZB];refine itd2 (fun _=>?_) (fun _=>?_)
  ·exact⟨_,rfl,a,ns,1,rfl,hS,by decide,fun c=>⟨_,rfl,_,rfl,c,mp,mt,rfl,p1,p14,by omega,by omega,q⟩⟩
  have c0:0<=hd / 2 % mp:=Y0B _ (by omega);have c1:hd / 2 % mp<mp:=Y0q _ (by omega)
  refine⟨_,rfl,_,_,rfl,rfl,⟨by decide,by decide⟩,_,rfl,_,_,rfl,rfl,(by show 0<mp;omega),_,_,rfl,rfl,?_⟩;obtain⟨n,hn⟩:∃ n,n=1+hd / 2 % mp:=⟨_,rfl⟩;have n1:1<=n:=by omega
  have n14:n<=mp:=by omega
  have N0:(0:Int)<n:=by omega
  refine⟨Yj _,fun l hl=>?_⟩;have s0:=Zz5 (o:=.lst []) hl
  refine⟨_,rfl,_,rfl,a,ns,1,mt,rfl,s0.seq hS,hn63,by decide,t1,t30,fun m ms H1 s1 hm0 hm1 hml=>?_⟩;have s01:=s0.trans s1
  have nml:m≠l:=fun e=>by rw[e,Zz1]at hm0;cases hm0
  refine⟨m,rfl,⟨_,SqL.of hm1⟩,?_⟩;refine ZZ3 (K:=K) (a:=m) (xs:=IL ms) (fun i σ H2=>∃(xs:List V) (ps:List (Int × Int)) (v6 v7 v8 v9:Option V),σ=[some (.ref a),some (.int mp),some (.int mt),some (.int hd),some (.int n),some (.ref l),v6,v7,v8,v9]/\Same H H2/\H2 m=some (.lst (IL ms))/\H2 l=some (.lst xs)/\PairsV H2 xs ps/\ps.length=i/\∀ p∈ps,0<=p.1/\p.1<n/\0<=p.2/\p.2<n)
   ⟨[],[],none,none,none,none,by rw[hn];rfl,s01,hm1,s1 _ _ Zz1,PairsV.nil,rfl,fun _ h=>(by cases h)⟩ (fun i σ H2 _ h=>by obtain⟨_,_,_,_,_,_,_,_,h,_⟩:=h;exact SqL.of h) ?_ ?_
  ·rintro i x σ H2 pt hpt hi ⟨xs,ps,v6,v7,v8,v9,rfl,s2,hm2,h2,hP,hlp,hb⟩;obtain⟨k,rfl,hk⟩:=ZW hi;have hi30:=(Yy2.mp hk).1
   have xl:xs.length<sizeLine:=Zn (by rw[hP.1];omega);have s3:=Zz5 (o:=.tup [.int i,.int k]) hpt
   have md:∀ z:Int,0<=z % n/\z % n<n:=fun z=>⟨Y0B _ (by omega),Y0q _ (by omega)⟩;refine⟨pt,_,rfl,SqT.of Zz1,rfl,_,_,rfl,_,_,rfl,rfl,?_⟩;generalize upd H2 pt (.tup [.int i,.int k])=H3 at *;have h3:=s3 _ _ h2
   refine⟨_,rfl,_,_,rfl,fun r1 _ _=>⟨_,rfl,_,_,rfl,rfl,N0,?_⟩⟩;refine⟨_,rfl,_,_,rfl,fun r2 _ _=>⟨_,rfl,_,_,rfl,rfl,N0,?_⟩⟩;refine nm ?_;refine Zz87 ?_;refine Zz114 (fun σ H4=>∃(o1 o2:Int),σ=[some (.ref a),some (.int mp),some (.int mt),some (.int hd),some (.int n),some (.ref l),some (.int i),some (.int k),some (.int o1),some (.int o2)]/\H4=H3/\0<=o1/\o1<n/\0<=o2/\o2<n) ?_ ?_
   ·rintro σ H4 ⟨o1,o2,rfl,rfl,a0,a1,b0,b1⟩;refine⟨_,rfl,.inl ⟨rfl,_,SqL.of h3⟩,_,rfl,_,rfl,two,fun t1 ht1=>⟨_,rfl,_,rfl,two,fun t2 ht2=>⟨two,fun pl hpl=>?_⟩⟩⟩;have y1:=Zz5 (o:=.tup [.int o1,.int o2]) ht1
    have y2:=Zz5 (o:=.tup [.int o2,.int o1]) ht2;have y3:=Zz5 (o:=.lst [.ref t1,.ref t2]) hpl
    have hx1:=y3 _ _ (y2 _ _ (Zz1 (H:=H4) (a:=t1) (o:=.tup [.int o1,.int o2])));have hx2:=y3 _ _ (Zz1 (a:=t2) (o:=.tup [.int o2,.int o1]))
    have hx3:(upd (upd (upd H4 t1 (.tup [.int o1,.int o2])) t2 (.tup [.int o2,.int o1])) pl (.lst [.ref t1,.ref t2])) pl=some (.lst [.ref t1,.ref t2]):=Zz1;have y13:=(y1.trans y2).trans y3
    generalize upd (upd (upd H4 t1 (.tup [.int o1,.int o2])) t2 (.tup [.int o2,.int o1])) pl (.lst [.ref t1,.ref t2])=H5 at *;refine⟨_,rfl,_,_,rfl,fun u u0 u1=>?_⟩;obtain⟨tt,p,hidx,htt,hp⟩:∃(tt:Addr) (p:Int × Int),atI ([.ref t1,.ref t2]:List V) (u % 2)=some (.ref tt)/\H5 tt=some (.tup [.int p.1,.int p.2])/\(0<=p.1/\p.1<n/\0<=p.2/\p.2<n):=by
     rcases(by omega:u % 2=0\/u % 2=1) with e | e <;> rw[e]
     ·exact⟨t1,(o1,o2),rfl,hx1,a0,a1,b0,b1⟩
     ·exact⟨t2,(o2,o1),rfl,hx2,b0,b1,a0,a1⟩
    refine⟨_,_,rfl,rfl,(by show(0:Int)<2;decide),pl,_,_,.ref tt,rfl,rfl,SqL.of hx3,hidx,l,xs,_,rfl,rfl,y13 _ _ h3,xl,?_⟩;have s35:=(s2.trans s3).trans y13
    refine⟨xs++[.ref tt],ps++[p],_,_,_,_,rfl,Zv hl s35,?_,Zz1,?_,by rw[Yy8,hlp];rfl,fun p' hp'=>?_⟩
    ·rw[Zc nml];exact y13 _ _ (s3 _ _ hm2)
    ·exact(((hP.same s3).same y13).snoc ⟨tt,rfl,htt⟩).mut (y13 _ _ h3)
    ·rcases Yy9.mp hp' with h | h
     ·exact hb p' h
     ·rw[Yy1.mp h];exact hp
   ·intro Kn hK;have alt:Kn [some (.ref a),some (.int mp),some (.int mt),some (.int hd),some (.int n),some (.ref l),some (.int i),some (.int k),some (.int (r1 % n)),some (.int (r2 % n))] H3:=hK _ _ ⟨_,_,rfl,rfl,(md _).1,(md _).2,(md _).1,(md _).2⟩
    refine⟨_,rfl,_,_,rfl,rfl,_,rfl,_,_,rfl,rfl,_,rfl,?_⟩;refine itd2 (fun hc=>?_) (fun hc=>alt);refine⟨_,rfl,_,_,rfl,fun r3 _ _=>⟨_,_,rfl,rfl,(by show(0:Int)<8;decide),_,_,rfl,rfl,_,rfl,?_⟩⟩;refine itd2 (fun hc2=>?_) (fun hc2=>alt);have I0:(0:Int)<(i:Int)+1:=by omega
    have g0:∀ z:Int,0<=z % ((i:Int)+1)/\z % ((i:Int)+1)<(i:Int)+1:=fun z=>⟨Y0B _ (by omega),Y0q _ I0⟩;refine⟨_,rfl,_,_,rfl,fun r4 _ _=>⟨_,rfl,_,_,rfl,rfl,_,_,rfl,rfl,I0,?_⟩⟩;refine⟨_,rfl,_,_,rfl,rfl,?_⟩;exact hK _ _ ⟨r4 % ((i:Int)+1),(i:Int)+1,rfl,rfl,(g0 r4).1,by have:=(g0 r4).2;omega,by omega,by omega⟩
  ·rintro σ H2 ⟨xs,ps,v6,v7,v8,v9,rfl,s2,hm2,h2,hP,hlp,hb⟩;refine⟨_,rfl,_,rfl,two,fun r hr=>?_⟩;have s3:=Zz5 (o:=.tup [.int n,.ref l]) hr
   rw[Zz4]at hlp;exact q r l n xs ps _ (s2.trans s3) Zz1 hl (s3 _ _ h2) (hP.same s3) ⟨by omega,by omega,by omega,hb⟩ (by omega) (by omega)
theorem ZO11{k:Int}(h0:0<=k)(h1:k<=30):-(10 ^ 200)<(48271+2 * k) ^ (12:Int).toNat/\(48271+2 * k) ^ (12:Int).toNat<10 ^ 200:=by
 have h:((48271+2 * k) ^ (12:Int).toNat).natAbs<=50000 ^ 12:=by rw[Int.natAbs_pow];exact Nat.pow_le_pow_left (by omega) 12
 have e:(50000:Nat) ^ 12<10 ^ 100:=by decide
 generalize (48271+2 * k) ^ (12:Int).toNat=x at *;omega
def spZJ(K:PySem.W.Frag):Sp:=fun vs H Q _=>∃(a:Addr) (ns:List Int) (c:Nat),vs=[.ref a,.int c]/\SqL K H a (IL ns)/\c<=30/\∀(r:Addr) (ls:List Int) (H':Hp),Same H H'->H r=none->H' r=some (.lst (IL ls))->ls.length=c->Q (.ref r) H'
theorem scZJ:FnScope ["script","count","head","rest","lengths","k","far"] ["script","count"] (Zz7 sZJ):=⟨rfl,rfl,rfl,by decide +kernel,rfl,by decide +kernel,by decide +kernel⟩
theorem okZJ (T:Txt K mg t):FnOk P w K mg base CX0 2 t.aZJ t.dZJ ["script","count"] (spZJ K):=by
 refine T.fZJ.ok scZJ (fun vs H Q E h=>?_) (fun cdv A outer s H vs Q E hr h=>?_)
 ·obtain⟨a,ns,c,rfl,_⟩:=h;rfl
 ·obtain⟨a,ns,c,rfl,hS,c30,q⟩:=h;refine⟨_,(Zz2 (Zf (i:=2) scZJ.nd rfl (Or.inl rfl) (Za (okZE T) (hr.mono (by decide)) rfl T.mZE T.fZE.kp T.bZE .nil Zq (Zz0 (pv 0) (Zz0 Zz9 Zz3))))
   (Zz2 (Zf (i:=3) scZJ.nd rfl (Or.inl rfl) (Zj Zm1 (pv 2) Zz9))
   (Zz2 (Zf (i:=4) scZJ.nd rfl (Or.inl rfl) (Zz81 Zz3))
   (Zz2 (Ze1 YT rfl (ZW1 rfl T.n_range (Zz0 (pv 1) Zz3)) (Ze (i:=5) scZJ.nd rfl (Or.inl rfl))
   (Zz2 (Zj1 (PW.pt (Zf9 (Zg Zd5 (Zj ZC (pv 2) Zz9) Zz9 (Zr _)) (ZQ5 (Zg (Zd11 K) (pv 3) (Zz81 (Zz0 Zz9 (Zz0 (Zh12 Za7 Zz9) Zz3))) rfl))))
   (Zz6 (ZA (Zf1 K YB YR YQ ZG (pv 4) (Zz0 (Zj ZQ1 (Zj ZC (Za (okZF T) (hr.mono (by decide)) rfl T.mZF T.fZF.kp T.bZF .nil Zq (Zz0 (pv 2) (Zz0 (Zj Zz01 Zz9 (pv 5)) Zz3))) Zz9) Zz9) Zz3))))
   (Zz6 (Zj1 (Zg Zd5 (Zj ZC (pv 2) Zz9) Zz9 (Zr _))
   (Zz6 (ZA (Zf1 K YB YR YQ ZG (pv 4) (Zz0 (Zj ZQ1 (Zj ZC (pv 3) Zz9) Zz9) Zz3))))
   (Zz6 (Zj1 (Zg Zd5 (Zj ZC (Zj Zm1 (pv 2) Zz9) Zz9) Zz9 (Zr _))
   (Zz2 (Zf (i:=6) scZJ.nd rfl (Or.inl rfl) (Zj Zl4 (Zj Zz01 (Zj Zz01 (Zj ZC (pv 2) (Zj ZR1 Zz9 Zz9)) (Zj Zl4 Zz9 (pv 5))) Zz9) (Zj ZR1 (Zj Zz01 Zz9 (Zj Zl4 Zz9 (pv 5))) Zz9)))
   (Zz6 (ZA (Zf1 K YB YR YQ ZG (pv 4) (Zz0 (Zj ZQ1 (Zj ZC (pv 6) (Zj ZR1 Zz9 Zz9)) (Zj Zl4 Zz9 (Zj ZR1 Zz9 Zz9))) Zz3)))))
   (Zz6 (ZA (Zf1 K YB YR YQ ZG (pv 4) (Zz0 (Zj ZQ1 (Zj ZC (Za (okZF T) (hr.mono (by decide)) rfl T.mZF T.fZF.kp T.bZF .nil Zq (Zz0 (pv 2) (Zz0 (Zj Zz01 Zz9 (pv 5)) Zz3))) (ZP (Zm K) (Zz81 (Zz0 Zz9 (Zz0 Zz9 Zz3))) (Zj ZC (Zj Zm1 (pv 2) Zz9) Zz9) (fun _ _=>rfl))) Zz9) Zz3)))))))))
   (Zz6 (Zf (i:=3) scZJ.nd rfl (Or.inl rfl) (Zj Zm1 (pv 3) Zz9)))))
   (Zz6 (Zo (pv 4))))))),?_⟩
  have two:2<=sizeLine:=by decide
  refine⟨_,rfl,a,ns,2,rfl,hS,by decide,fun hd=>?_⟩;refine⟨_,rfl,_,_,rfl,rfl,⟨by decide,by decide⟩,?_⟩;refine⟨Yj _,fun l hl=>?_⟩;refine⟨_,rfl,c,rfl,by omega,by omega,ZZ2 (lo:=0) (n:=(c:Int).toNat) (fun i σ H2=>∃(z:Int) (W:List Int) (v5 v6:Option V),σ=[some (.ref a),some (.int c),some (.int hd),some (.int z),some (.ref l),v5,v6]/\W.length=i/\Same H H2/\H2 l=some (.lst (IL W))) ⟨_,[],none,none,rfl,rfl,Zz5 hl,Zz1⟩ ?_ ?_⟩
  ·rintro i σ H2 hi ⟨z,W,v5,v6,rfl,hW,s2,h2⟩;have wl:(IL W).length<sizeLine:=Zn (by rw[Zz4];omega)
   have app:∀(H3:Hp) (v:Int) (zz:Int) (w5 w6:Option V),Same H2 H3->∃(z:Int) (W2:List Int) (v5 v6:Option V),[some (.ref a),some (.int c),some (.int hd),some (.int zz),some (.ref l),w5,w6]=[some (.ref a),some (.int c),some (.int hd),some (.int z),some (.ref l),v5,v6]/\W2.length=i+1/\Same H (upd H3 l (.lst (IL W++[.int v])))/\(upd H3 l (.lst (IL W++[.int v]))) l=some (.lst (IL W2)):=fun H3 v zz w5 w6 s3 =>
    ⟨zz,W++[v],w5,w6,rfl,by rw[Yy8,hW];rfl,Zv hl (s2.trans s3),by rw[Zz1,ZR]⟩
   have P2:(0:Int)<2:=by decide
   have P7:(0:Int)<7:=by decide
   have D7:(0:Int)<7/\(7:Int)<1073741824:=by decide
   have D2:(0:Int)<2/\(2:Int)<1073741824:=by decide
   refine⟨_,rfl,_,_,rfl,rfl,P2,rfl,_,rfl,?_⟩;rw[ZB];refine itd2 (fun he=>?_) (fun he=>?_)
   ·refine⟨_,rfl,_,rfl,two,fun lp hlp=>?_⟩;have s3:=Zz5 (o:=.lst [.int 0,.int (-1)]) hlp
    refine⟨lp,_,rfl,.inl (SqL.of Zz1),rfl,rfl,_,rfl,?_⟩;have h3:=s3 _ _ h2
    refine itb (fun _=>?_) (fun _=>?_)
    ·refine⟨_,rfl,.inl ⟨rfl,_,SqL.of h3⟩,_,rfl,_,rfl,_,_,rfl,rfl,_,_,rfl,fun r _ _=>⟨_,_,rfl,rfl,P7,_,_,rfl,rfl,l,_,_,rfl,rfl,h3,wl,?_⟩⟩;refine⟨_,rfl,_,_,rfl,rfl,D7,?_⟩;exact app _ _ _ _ _ s3
    ·refine⟨_,rfl,_,_,rfl,rfl,P2,rfl,_,rfl,?_⟩;rw[ZB];refine itd he ?_;refine⟨_,rfl,.inl ⟨rfl,_,SqL.of h3⟩,_,rfl,_,_,rfl,rfl,P7,_,_,rfl,rfl,l,_,_,rfl,rfl,h3,wl,?_⟩;refine⟨_,rfl,_,_,rfl,rfl,D7,?_⟩;exact app _ _ _ _ _ s3
   ·refine⟨_,rfl,_,_,rfl,rfl,P2,rfl,_,rfl,?_⟩;rw[ZB];refine itdn he ?_;refine⟨_,rfl,_,_,rfl,rfl,D2,_,_,rfl,rfl,(by show(0:Int)<3;decide),rfl,_,rfl,?_⟩;rw[ZB];refine itd2 (fun hf=>?_) (fun hf=>?_)
    ·have f0:-(10 ^ 200)<hd % 10 ^ 60+7919 * (0+(i:Int))+1:=by omega
     have f1:hd % 10 ^ 60+7919 * (0+(i:Int))+1<10 ^ 200:=by omega
     have k0:-(10 ^ 200)<(0+(i:Int))/\(0+(i:Int))<10 ^ 200:=by omega
     have fp:=ZO11 (k:=0+(i:Int)) (by omega) (by omega);have fa:(48271+2 * (0+(i:Int))).natAbs<2 ^ 64:=by omega
     refine⟨_,rfl,_,_,rfl,rfl,⟨by decide,by decide,by decide⟩,_,_,rfl,rfl,(by show(0:Int)<10 ^ 60;decide),_,rfl,_,_,rfl,rfl,⟨⟨by decide,by decide⟩,k0⟩,_,_,rfl,rfl,_,_,rfl,rfl,_,rfl,_,_,rfl,rfl,⟨⟨by decide,by decide⟩,k0⟩,_,_,rfl,rfl,_,_,rfl,rfl,⟨by decide,by decide,fa⟩,_,_,rfl,rfl,⟨⟨f0,f1⟩,fp⟩,?_⟩;refine⟨_,rfl,.inl ⟨rfl,_,SqL.of h2⟩,_,rfl,_,_,rfl,rfl,⟨by decide,by decide,by decide⟩,_,_,rfl,rfl,(by show(0:Int)<10 ^ 50;decide),_,_,rfl,rfl,⟨by decide,by decide,by decide⟩,_,_,rfl,rfl,⟨⟨by decide,by decide⟩,⟨by decide,by decide⟩⟩,_,_,rfl,rfl,l,_,_,rfl,rfl,h2,wl,?_⟩;refine⟨_,rfl,_,_,rfl,rfl,D7,?_⟩;exact app _ _ _ _ _ (Same.refl _)
    ·refine⟨_,rfl,.inl ⟨rfl,_,SqL.of h2⟩,_,rfl,_,rfl,_,_,rfl,rfl,_,_,rfl,fun r _ _=>⟨two,fun pl hpl=>?_⟩⟩;have s3:=Zz5 (o:=.lst [.int 3,.int 9]) hpl
     have h3:=s3 _ _ h2;obtain⟨w,hw,w0⟩:∃ w:Int,atI ([.int 3,.int 9]:List V) (hd / 6 % 2)=some (.int w)/\0<w:=by
      rcases(by omega:hd / 6 % 2=0\/hd / 6 % 2=1) with e | e <;> rw[e]
      ·exact⟨3,rfl,by decide⟩
      ·exact⟨9,rfl,by decide⟩
     refine⟨_,rfl,_,_,rfl,rfl,⟨by decide,by decide⟩,_,_,rfl,rfl,P2,pl,_,_,.int w,rfl,rfl,SqL.of Zz1,hw,_,_,rfl,rfl,w0,_,_,rfl,rfl,l,_,_,rfl,rfl,h3,wl,?_⟩;refine⟨_,rfl,_,_,rfl,rfl,D7,?_⟩;exact app _ _ _ _ _ s3
  rintro σ H2 ⟨z,W,v5,v6,rfl,hW,s2,h2⟩;exact⟨_,rfl,q l W H2 s2 hl h2 (by omega)⟩
def spZK(K:PySem.W.Frag)(C Pt:Addr):Sp:=fun vs H Q _=>∃(w b:Addr) (n m c:Int) (ps:List (Int × Int)) (ls:List Int),vs=[.ref w,.int n,.ref b,.int m,.int c]/\WebAt C H w n ps/\Zu n ps/\H b=some (.lst (IL ls))/\ls.length=ps.length/\TabR H Pt/\0<c/\c<2 ^ 40/\(∃ W,Zd n ps W)/\n<=10/\∀ H':Hp,SameX Pt H H'->TabR H' Pt->Q (.bl true) H'
def RkV(H:Hp)(v:V)(x:Int × List Int):Prop:=∃ a q,v=.ref a/\H a=some (.tup [.int x.1,.ref q])/\H q=some (.tup (IL x.2))
theorem RkV.same{H H':Hp}{v:V}{x:Int × List Int}(s:Same H H')(h:RkV H v x):RkV H' v x:=by obtain⟨a,q,e,h1,h2⟩:=h;exact⟨a,q,e,s _ _ h1,s _ _ h2⟩
theorem RkV.samex{H H':Hp}{Pt:Addr}{v:V}{x:Int × List Int}(t:TabR H Pt)(s:SameX Pt H H')(h:RkV H v x):RkV H' v x:=by obtain⟨a,q,e,h1,h2⟩:=h;exact⟨a,q,e,s _ _ (t.ne h1 (by simp)) h1,s _ _ (t.ne h2 (by simp)) h2⟩
theorem Zz813{K:PySem.W.Frag}{H:Hp}{v u:V}{x y:Int × List Int}(h1:RkV H v x)(h2:RkV H u y):EqD K H 2 v u (decide (x=y)):=by
 obtain⟨tp,tr,rfl,a1,a2⟩:=h1;obtain⟨tp',tr',rfl,b1,b2⟩:=h2;have e:((List.range (min [V.int x.1,.ref tr].length [V.int y.1,.ref tr'].length)).all (fun i=>match i with
   | 0=>decide (x.1=y.1)
   | _=>decide (x.2=y.2)) && [V.int x.1,.ref tr].length == [V.int y.1,.ref tr'].length)=decide (x=y):=by show(decide (x.1=y.1) && (decide (x.2=y.2) && true) && true)=decide (x=y);rw[Y0h];simp only [Y3d,Y0t,Y1U,Prod.ext_iff]
 rw[<- e];refine EqD.tups (SqT.of a1) (SqT.of b1) fun i p q hx hy=>?_
 match i,hx,hy with
 | 0,hx,hy =>
  obtain rfl:=Yc hx;obtain rfl:=Yc hy;exact Yz3 rfl rfl
 | 1,hx,hy =>
  obtain rfl:=Yc hx;obtain rfl:=Yc hy;exact Zi1 (SqT.of a2) (SqT.of b2)
 | i+2,hx,_=>cases hx
theorem ZF6{K:PySem.W.Frag}{H:Hp}{p q:Addr}{xs ys:List V}{l m:List (Int × List Int)}(hp:SqL K H p xs)(hq:SqL K H q ys)(h1:Bears (RkV H) xs l)(h2:Bears (RkV H) ys m):EqD K H 3 (.ref p) (.ref q) (decide (l=m)) :=
 Zz13 hp hq h1 h2 fun _ _ _ _ a b=>Zz813 a b
theorem ZJ12{H:Hp}{ls:List Int}{ys:List V}{L:List (List Int)}(h:Bears (PV H ls) ys L):Bears (RkV H) ys (L.map fun T=>(sumL ls T,T)):=by refine⟨by rw[Yb];exact h.1,fun i x e=>?_⟩;rw[Ym]at e;obtain⟨T,hT,rfl⟩:=Yy20.mp e;obtain⟨v,hv,r⟩:=h.2 i T hT;exact⟨v,hv,r⟩
theorem RkV.put{H:Hp}{v:V}{x:Int × List Int}{r:Addr}{zs:List V}{o:HO}(hr:H r=some (.lst zs))(h:RkV H v x):RkV (upd H r o) v x:=by obtain⟨a,q,e,h1,h2⟩:=h;exact⟨a,q,e,by rw[Zc (Zr3 h1 hr (by simp))];exact h1,by rw[Zc (Zr3 h2 hr (by simp))];exact h2⟩
theorem scZK:FnScope ["web","places","lengths","more","scale","changed","tree","least","row","length"] ["web","places","lengths","more","scale"] (Zz7 sZK):=⟨rfl,rfl,rfl,by decide +kernel,rfl,by decide +kernel,by decide +kernel⟩
theorem okZK {Pt:Addr} (T:Txt K mg t) (hB:Zl13 K mg base t.dZD Pt):FnOk P w K mg base CX0 11 t.aZK t.dZK ["web","places","lengths","more","scale"] (spZK K t.A_Web Pt):=by
 refine T.fZK.ok scZK (fun vs H Q E h=>?_) (fun cdv A outer s H vs Q E hr h=>?_)
 ·obtain⟨w,b,n,m,c,ps,ls,rfl,_⟩:=h;rfl
 ·obtain⟨w,b,n,m,c,ps,ls,rfl,hW,hG,hL,hl,hTb,c0,c1,⟨W0,hW0⟩,hn10,q⟩:=h;refine⟨_,(Zz2 (Zn7 (i:=5) rfl scZK.nd rfl rfl (sc0:=Zz7 sZK) (N0:=["web","places","lengths","more","scale","changed","tree","least","row","length"]) (N':=["length","scale","more"]) (o:=1) (fr:=[4,3]) ⟨rfl,by decide +kernel,by decide +kernel,by decide +kernel,rfl,by decide +kernel⟩ (ZU K (pv 2)) (ZH (by decide)) (fun _ _ _ _=>(Ze (i:=0) (show List.Nodup (["length","scale","more"]:List Str) by decide +kernel) rfl (Or.inl rfl))) (fun _ _ _ _=>ZZ) (fun _ _ _ _=>(Zj Zz01 (Zj ZB1 (pv 0) (pv 1)) (pv 2))))
   (Zz2 (Zj1 (Zg ZZ5 (Za (okZz T) (hr.mono (by decide)) rfl T.mZz T.fZz.kp T.bZz .nil Zq (Zz0 (pv 0) (Zz0 (pv 5) Zz3))) (Za (okZz T) (hr.mono (by decide)) rfl T.mZz T.fZz.kp T.bZz .nil Zq (Zz0 (pv 0) (Zz0 (pv 2) Zz3))) (Zr _))
   (Zz6 (Zo Zr7))
   Zs)
   (Zz2 (Zf (i:=6) scZK.nd rfl (Or.inl rfl) (Za (okZw T) (hr.mono (by decide)) rfl T.mZw T.fZw.kp T.bZw .nil Zq (Zz0 (pv 0) (Zz0 (pv 2) Zz3))))
   (Zz2 (Zf (i:=7) scZK.nd rfl (Or.inl rfl) (Za (okZt T) (hr.mono (by decide)) rfl T.mZt T.fZt.kp T.bZt .nil Zq (Zz0 (pv 0) (Zz0 Zz9 Zz3))))
   (Zz2 (Zj1 (Zg (Zp3 K (hu8 hr)) (Za (okZw T) (hr.mono (by decide)) rfl T.mZw T.fZw.kp T.bZw .nil Zq (Zz0 (pv 0) (Zz0 (pv 5) Zz3))) (pv 6) (Zr _))
   (Zz6 (Zo Zr7))
   Zs)
   (Zz2 (Zj1 (Zg (Zp3 K (hu8 hr)) (Za (okZx T) (hr.mono (by decide)) rfl T.mZx T.fZx.kp T.bZx .nil Zq (Zz0 (pv 0) (Zz0 (pv 5) (Zz0 (pv 7) Zz3)))) (Za (okZx T) (hr.mono (by decide)) rfl T.mZx T.fZx.kp T.bZx .nil Zq (Zz0 (pv 0) (Zz0 (pv 2) (Zz0 (pv 7) Zz3)))) (Zr _))
   (Zz6 (Zo Zr7))
   Zs)
   (Zz2 (Zf (i:=8) scZK.nd rfl (Or.inl rfl) (Zz81 Zz3))
   (Zz2 (Ze1 YT rfl (ZU K (Za (okZD T hB) (hr.mono (by decide)) rfl T.mZD T.fZD.kp T.bZD .nil Zq (Zz0 (pv 0) (Zz0 (pv 2) (Zz0 Zz9 Zz3))))) (Zz71 (n:=2) K rfl (Zp (Ze (i:=9) scZK.nd rfl (Or.inl rfl)) (Zp (Ze (i:=6) scZK.nd rfl (Or.inl rfl)) Zz61)))
   (Zz6 (ZA (Zf1 K YB YR YQ ZG (pv 8) (Zz0 (ZN (Zz0 (Zj Zz01 (Zj ZB1 (pv 9) (pv 4)) (Zj ZB1 (pv 3) (Zj ZQ1 (pv 1) Zz9))) (Zz0 (pv 6) Zz3))) Zz3)))))
   (Zz6 (Zo (Zc2 (Zz26 K (hu8 hr)) (Za (okZD T hB) (hr.mono (by decide)) rfl T.mZD T.fZD.kp T.bZD .nil Zq (Zz0 (pv 0) (Zz0 (pv 5) (Zz0 Zz9 Zz3)))) (pv 8) (Zr _)))))))))))),?_⟩
  have two:2<=sizeLine:=by decide
  obtain⟨g1,g2,g3,g4⟩:=id hG;have hcl:=Zb8 c m ls
  have hlc:(scL c m ls).length=ps.length:=by omega
  refine⟨_,rfl,b,rfl,⟨_,SqL.of hL⟩,ZD1 (K:=K) (a:=b) (xs:=IL ls) (fun i ws H1=>H1=H/\ws=IL ((ls.take i).map fun x=>x * c+m)/\i<=ls.length) ⟨rfl,rfl,Yj _⟩ (Zn (by rw[Zz4];omega)) (fun i ws H1 hi ⟨e,ew,hi2⟩=>⟨e ▸ SqL.of hL,by rw[ew,Zz4,Yb,Yz];omega⟩) ?_ ?_⟩
  ·rintro i v ws H1 hi ⟨rfl,rfl,hil⟩ S hSS;obtain⟨z,rfl,hz⟩:=ZW hi;refine nm ?_;refine⟨_,rfl,_,rfl,_,_,rfl,rfl,.inr ⟨by omega,by omega⟩,_,rfl,_,_,rfl,rfl,?_⟩;refine hSS _ _ ⟨rfl,?_,(Yy2.mp hz).1⟩;rw[YO,hz,YE];exact(ZR _ _).symm
  rintro ws H1 ⟨rfl,rfl,_⟩ cA hcA;rw[Zz4,YG];have s1:=Zz5 (o:=.lst (IL (scL c m ls))) hcA
  have kC:(upd H1 cA (.lst (IL (scL c m ls)))) cA=some (.lst (IL (scL c m ls))):=Zz1;refine nm ?_;change tSeq _ _ _ [some (.ref w),some (.int n),some (.ref b),some (.int m),some (.int c),some (.ref cA),none,none,none,none] (upd H1 cA (.lst (IL (scL c m ls))));generalize upd H1 cA (.lst (IL (scL c m ls)))=H2 at *;refine⟨_,rfl,_,rfl,w,cA,n,ps,scL c m ls,rfl,hW.same s1,hG,SqL.of kC,hlc,fun c1' H3 hc1 s3=>?_⟩;have s13:=s1.trans s3
  refine⟨_,rfl,_,rfl,w,b,n,ps,ls,rfl,hW.same s13,hG,SqL.of (s13 _ _ hL),hl,fun c2' H4 hc2 s4=>?_⟩;have ec:=ZA5 (fun T=>Zc13 (d:=m) hG c0 hl T) hc1 hc2
  subst ec;refine⟨rfl,_,rfl,?_⟩;refine itn rfl ?_;show(_:Prop)
  refine Zz87 ?_;have s14:=s13.trans s4
  refine⟨_,rfl,_,rfl,w,b,n,ps,ls,rfl,hW.same s14,hG,SqL.of (s14 _ _ hL),hl,fun B ba H5 hB1 hB2 s5 hba=>?_,fun h=>absurd ((ZH8 hG hl).mp ⟨W0,hW0⟩) fun⟨W,hW⟩=>h W hW⟩;refine nm ?_;dsimp only [List.set];have hF:=Zz810 hG hl hB1 hB2
  have s15:=s14.trans s5;obtain⟨cc,hTC⟩:∃ cc,TC n ps cc:=by obtain⟨L,l1,l2⟩:=Zc8 hG;exact⟨_,L,Zj6 l2,l1,rfl⟩
  have hcc:0<cc:=by
   rcases Nat.eq_zero_or_pos cc with e | e
   ·exact absurd hW0 ((ZU1 hTC).mp e W0)
   ·exact e
  refine⟨_,rfl,w,n,ps,0,rfl,hW.same s15,hG,by decide,by decide,fun c9 hc9 _ _ F fA H6 hFt hFr s6 hfA=>?_,fun h=>?_⟩;rotate_left
  ·exfalso;rcases h with h | ⟨c9,h1,h2⟩
   ·omega
   ·have:=hTC.uniq h1
    omega
  refine nm ?_;dsimp only [List.set];have s16:=s15.trans s6
  have s26:=(s3.trans s4).trans (s5.trans s6);refine⟨_,rfl,_,rfl,w,cA,n,ps,scL c m ls,rfl,hW.same s16,hG,SqL.of (s26 _ _ kC),hlc,fun B2 b2 H7 hC1 hC2 s7 hb2=>?_,fun h=>absurd ((ZH8 hG hlc).mp ⟨W0,hW0⟩) fun⟨W,hW⟩=>h W hW⟩;have eB:=(ZL11 c0 hl (Zz810 hG hlc hC1 hC2)).uniq hF
  subst eB;refine⟨_,rfl,1,_,b2,ba,rfl,rfl,by decide,Zi1 (SqT.of hb2) (SqT.of ((s6.trans s7) _ _ hba)),_,rfl,?_⟩;rw[Yl rfl];refine iteF ?_;show(_:Prop)
  refine Zz87 ?_;have s17:=s16.trans s7
  have s27:=s26.trans s7;refine⟨_,rfl,_,rfl,_,rfl,w,cA,fA,n,ps,false,true,scL c m ls,F,rfl,hW.same s17,hG,SqL.of (s27 _ _ kC),SqT.of (s7 _ _ hfA),fun _ _ r1 x1 H8 s8 hr10 hr1 hP1=>?_,fun z=>absurd hlc z,fun _ z=>absurd hFt z⟩;have s18:=s17.trans s8
  refine⟨_,rfl,_,rfl,_,rfl,w,b,fA,n,ps,false,true,ls,F,rfl,hW.same s18,hG,SqL.of (s18 _ _ hL),SqT.of ((s7.trans s8) _ _ hfA),fun _ _ r2 x2 H9 s9 hr20 hr2 hP2=>?_,fun z=>absurd hl z,fun _ z=>absurd hFt z⟩;refine⟨2,_,r1,r2,rfl,rfl,by decide,ZR7 (SqL.of (s9 _ _ hr1)) (SqL.of hr2) (hP1.same s9) hP2,_,rfl,?_⟩;rw[Yl (ZJ11 c0 hl hFt)];refine iteF ?_;show(_:Prop)
  refine Zz87 ?_;have s19:=s18.trans s9
  have s29:=s27.trans (s8.trans s9);have hW9:=hW.same s19
  have hL9:=s19 _ _ hL;have kC9:=s29 _ _ kC
  have tab9:=hTb.same s19;refine⟨Yj _,fun gA hgA=>?_⟩;have u0:=Zz5 (o:=.lst []) hgA
  have kG:(upd H9 gA (.lst [])) gA=some (.lst []):=Zz1;refine nm ?_;change tSeq _ _ _ [some (.ref w),some (.int n),some (.ref b),some (.int m),some (.int c),some (.ref cA),some (.ref ba),some (.ref fA),some (.ref gA),none] (upd H9 gA (.lst []));generalize upd H9 gA (.lst [])=H10 at *;have tab10:=tab9.same u0
  refine⟨_,rfl,_,rfl,w,b,n,10,ps,false,ls,rfl,hW9.same u0,hG,SqL.of (u0 _ _ hL9),hl,by decide,by decide,tab10,fun fs L r3 HD hrk hBf sxD tabD hr30 hr3=>?_⟩;have hfl:fs.length=L.length:=hBf.1
  have kGD:=sxD _ _ (tab10.ne kG (by simp)) kG;have gne:r3≠gA:=fun e=>by rw[e,kG]at hr30;cases hr30
  refine⟨r3,rfl,⟨_,SqL.of hr3⟩,Zi2 (K:=K) (a:=r3) (xs:=fs) (fun i σ H7=>∃(v6 v9:Option V) (zs:List V),σ=[some (.ref w),some (.int n),some (.ref b),some (.int m),some (.int c),some (.ref cA),v6,some (.ref fA),some (.ref gA),v9]/\(∀ b o,b≠gA->HD b=some o->H7 b=some o)/\TabR H7 Pt/\H7 gA=some (.lst zs)/\Bears (RkV H7) zs ((L.take i).map fun T=>(sumL ls T * c+m * (n - 1),T))) ⟨_,_,[],rfl,fun _ _ _ e=>e,tabD,kGD,⟨rfl,fun i l e=>by simp at e⟩⟩ (fun i σ H7 _ h=>by obtain⟨_,_,_,_,s7,_⟩:=h;exact SqL.of (s7 _ _ gne hr3)) ?_ ?_⟩;rotate_left
  ·rintro σ H11 ⟨v6,v9,zs,rfl,s11,tab11,hg11,hZ⟩;rw[hfl,YG]at hZ;have sx:SameX Pt H9 H11:=fun b o hb e=>s11 b o (Zb e hgA) (sxD b o hb (u0 b o e))
   refine Zz87 ?_;refine⟨_,rfl,_,rfl,w,cA,n,10,ps,false,scL c m ls,rfl,hW9.samex tab9 sx,hG,SqL.of (sx _ _ (tab9.ne kC9 (by simp)) kC9),hlc,by decide,by decide,tab11,fun fs2 M r4 H12 hrk2 hBf2 sx12 tab12 hr40 hr4=>?_⟩;have eM:=Zz99 (ZQ10 c0 hl hrk2) hrk
   subst eM;refine⟨_,rfl,3,_,r4,gA,rfl,rfl,by decide,ZF6 (SqL.of hr4) (SqL.of (sx12 _ _ (tab11.ne hg11 (by simp)) hg11)) (ZJ12 hBf2) (hZ.imp fun _ _ h=>RkV.samex tab11 sx12 h),?_⟩;rw[Yl (YL fun T hT=>by rw[ZJ3 hl (hrk.tr T hT)])];exact q _ ((SameX.same s19).trans (sx.trans sx12)) tab12
  rintro i v σ H11 hi ⟨v6,v9,zs,rfl,s11,tab11,hg11,hZ⟩;obtain⟨U,hU,tp,tr,rfl,q1,q2⟩:=hBf.at hi;have hi':i<L.length:=(Yy2.mp hU).1
  have p1:=s11 _ _ (Zr3 q1 kGD (by simp)) q1;have p2:=s11 _ _ (Zr3 q2 kGD (by simp)) q2
  refine⟨tp,_,rfl,SqT.of p1,rfl,_,_,rfl,_,_,rfl,rfl,?_⟩;dsimp only [List.set];refine⟨_,rfl,.inl ⟨rfl,_,SqL.of hg11⟩,_,rfl,_,rfl,_,_,rfl,rfl,.inr ⟨by omega,by omega⟩,_,rfl,_,rfl,_,_,rfl,rfl,_,_,rfl,rfl,.inr ⟨by omega,by omega⟩,_,_,rfl,rfl,_,rfl,two,fun d6 hd6=>?_⟩;have w6:=Zz5 (o:=.tup [.int (sumL ls U * c+m * (n - 1)),.ref tr]) hd6
  have hg6:=w6 _ _ hg11;have hzl:zs.length=_:=hZ.1
  rw[Yb,Yz]at hzl;have z1:100000<=sizeLine:=by decide
  have few:=hrk.few;refine⟨gA,zs,.ref d6,rfl,rfl,hg6,(by have:((10:Int).toNat)=10:=rfl;omega),?_⟩;refine⟨_,_,zs++[.ref d6],rfl,fun b o hb e=>?_,(tab11.same w6).put hg6,Zz1,?_⟩
  ·rw[Zc hb];exact w6 _ _ (s11 b o hb e)
  ·rw[YO,hU,YE];exact((hZ.imp fun _ _ h=>h.same w6).snoc ⟨d6,tr,rfl,Zz1,w6 _ _ p2⟩).imp fun _ _ h=>RkV.put hg6 h
def spZL(K:PySem.W.Frag)(Pt:Addr):Sp:=fun vs H Q _=>∃(a:Addr) (ns:List Int),vs=[.ref a]/\SqL K H a (IL ns)/\ns.length<=63/\TabR H Pt/\∀ H',Q (.bl true) H'
theorem scZL:FnScope ["script","places","ties","web","lengths","count","cell","flat","number","rising","first","least_length"] ["script"] (Zz7 sZL):=⟨rfl,rfl,rfl,by decide +kernel,rfl,by decide +kernel,by decide +kernel⟩
theorem okZL {Pt:Addr} (T:Txt K mg t) (hB:Zl13 K mg base t.dZD Pt):FnOk P w K mg base CX0 12 t.aZL t.dZL ["script"] (spZL K Pt):=by
 refine T.fZL.ok scZL (fun vs H Q E h=>?_) (fun cdv A outer s H vs Q E hr h=>?_)
 ·obtain⟨a,ns,rfl,_⟩:=h;rfl
 ·obtain⟨a,ns,rfl,hS,hn63,hTb,k⟩:=h;refine⟨_,(@Zz2 _ _ _ _ _ (Zi9 (Za (okZI T) (hr.mono (by decide)) rfl T.mZI T.fZI.kp T.bZI .nil Zq (Zz0 (pv 0) (Zz0 Zz9 (Zz0 Zz9 Zz3)))) (Zz71 (n:=2) K rfl (Zp (Ze (i:=1) scZL.nd rfl (Or.inl rfl)) (Zp (Ze (i:=2) scZL.nd rfl (Or.inl rfl)) Zz61))))
   (@Zz2 _ _ _ _ _ (@Zf _ _ 3 _ _ _ _ scZL.nd rfl (Or.inl rfl) (ZX5 T.k_Web (okZ8 T) (hr.mono (by decide)) rfl T.c_Web T.bZ8 .nil Zq (Zz0 (pv 1) (Zz0 (Zt (ZS K) (by rfl) T.n_list Boot.«list» (Zz0 (pv 2) Zz3)) Zz3))) rfl (.inl rfl))
   (@Zz2 _ _ _ _ _ (@Zf _ _ 4 _ _ _ _ scZL.nd rfl (Or.inl rfl) (Za (okZJ T) (hr.mono (by decide)) rfl T.mZJ T.fZJ.kp T.bZJ .nil Zq (Zz0 (pv 0) (Zz0 (Zl (Zk K) (by rfl) T.n_len Boot.«len» (Zz0 (pv 2) Zz3)) Zz3))) rfl (.inl rfl))
   (@Zz2 _ _ _ _ _ (@Zf _ _ 5 _ _ _ _ scZL.nd rfl (Or.inl rfl) (Za (okZl T) (hr.mono (by decide)) rfl T.mZl T.fZl.kp T.bZl .nil Zq (Zz0 (pv 3) Zz3)) rfl (.inl rfl))
   (@Zz2 _ _ _ _ _ (@Zf _ _ 6 _ _ _ _ scZL.nd rfl (Or.inr rfl) (Za (okZE T) (hr.mono (by decide)) rfl T.mZE T.fZE.kp T.bZE .nil Zq (Zz0 (pv 0) (Zz0 Zz9 Zz3))) rfl (.inl rfl))
   (@Zz2 _ _ _ _ _ (Zn7 (i:=7) rfl scZL.nd rfl rfl (sc0:=Zz7 sZL) (N0:=["script","places","ties","web","lengths","count","cell","flat","number","rising","first","least_length"]) (N':=["tie","cell"]) (o:=1) (fr:=[6]) ⟨rfl,by decide +kernel,by decide +kernel,by decide +kernel,rfl,by decide +kernel⟩ (ZU K (pv 2)) (ZH (by decide)) (fun _ _ _ _=>(Ze (i:=0) (show List.Nodup (["tie","cell"]:List Str) by decide +kernel) rfl (Or.inl rfl))) (fun _ _ _ _=>ZZ) (fun _ _ _ _=>(@Zj _ _ _ _ _ _ _ _ ZQ1 (@Zj _ _ _ _ _ _ _ _ ZC (pv 1) (@Zj _ _ _ _ _ _ _ _ ZR1 Zz9 Zz9)) (@Zj _ _ _ _ _ _ _ _ ZR1 Zz9 Zz9))))
   (@Zz2 _ _ _ _ _ (@Zj1 _ _ _ _ _ _ _ _ (Zg ZZ5 (Za (okZz T) (hr.mono (by decide)) rfl T.mZz T.fZz.kp T.bZz .nil Zq (Zz0 (pv 3) (Zz0 (pv 7) Zz3))) (pv 5) (Zr _))
   (@Zz6 _ _ _ (@Zo _ _ _ _ Zr7))
   Zs)
   (@Zz2 _ _ _ _ _ (@Zj1 _ _ _ _ _ _ _ _ (Zg Zd5 (pv 5) Zz9 (Zr _))
   (@Zz6 _ _ _ (@Zo _ _ _ _ (Zs7 (Zc2 (Zz26 K (hu8 hr)) (Za (okZD T hB) (hr.mono (by decide)) rfl T.mZD T.fZD.kp T.bZD .nil Zq (Zz0 (pv 3) (Zz0 (pv 4) (Zz0 Zz9 Zz3)))) (Zz81 Zz3) (Zr _)) (Zn9 (Zc2 Zd5 (Za (okZz T) (hr.mono (by decide)) rfl T.mZz T.fZz.kp T.bZz .nil Zq (Zz0 (pv 3) (Zz0 (pv 4) Zz3))) Zz9 (Zr _))))))
   Zs)
   (@Zz2 _ _ _ _ _ (@Zj1 _ _ _ _ _ _ _ _ (Zk3 (ZS5 (Za (okZK T hB) (hr.mono (by decide)) rfl T.mZK T.fZK.kp T.bZK .nil Zq (Zz0 (pv 3) (Zz0 (pv 1) (Zz0 (pv 4) (Zz0 (@Zj _ _ _ _ _ _ _ _ ZQ1 (@Zj _ _ _ _ _ _ _ _ ZC (pv 6) (@Zj _ _ _ _ _ _ _ _ ZR1 Zz9 Zz9)) (@Zj _ _ _ _ _ _ _ _ ZB1 Zz9 (@Zj _ _ _ _ _ _ _ _ ZR1 Zz9 Zz9))) (Zz0 (@Zj _ _ _ _ _ _ _ _ Zz01 Zz9 (@Zj _ _ _ _ _ _ _ _ ZC (@Zj _ _ _ _ _ _ _ _ Zm1 (pv 6) Zz9) (@Zj _ _ _ _ _ _ _ _ ZR1 Zz9 Zz9))) Zz3))))))))
   (@Zz6 _ _ _ (@Zo _ _ _ _ Zr7))
   Zs)
   (@Zz2 _ _ _ _ _ (@Zf _ _ 8 _ _ _ _ scZL.nd rfl (Or.inl rfl) (@Zj _ _ _ _ _ _ _ _ ZC (Za (okZF T) (hr.mono (by decide)) rfl T.mZF T.fZF.kp T.bZF .nil Zq (Zz0 (pv 6) (Zz0 Zz9 Zz3))) (pv 5)) rfl (.inl rfl))
   (@Zz2 _ _ _ _ _ (@Zj1 _ _ _ _ _ _ _ _ (Zg (Zp3 K (hu8 hr)) (Za (okZA T) (hr.mono (by decide)) rfl T.mZA T.fZA.kp T.bZA .nil Zq (Zz0 (pv 3) (Zz0 (pv 7) (Zz0 (pv 8) Zz3)))) (Za (okZt T) (hr.mono (by decide)) rfl T.mZt T.fZt.kp T.bZt .nil Zq (Zz0 (pv 3) (Zz0 (pv 8) Zz3))) (Zr _))
   (@Zz6 _ _ _ (@Zo _ _ _ _ Zr7))
   Zs)
   (@Zz2 _ _ _ _ _ (@Zf _ _ 9 _ _ _ _ scZL.nd rfl (Or.inr rfl) (Zc5 rfl (sc0:=Zz7 sZL) (N0:=["script","places","ties","web","lengths","count","cell","flat","number","rising","first","least_length"]) (N':=["tie"]) (o:=1) (fr:=[]) ⟨rfl,by decide +kernel,by decide +kernel,by decide +kernel,rfl,by decide +kernel⟩ (ZW1 rfl T.n_range (Zz0 (Zl (Zk K) (by rfl) T.n_len Boot.«len» (Zz0 (pv 2) Zz3)) Zz3)) (ZH (by decide)) (fun _ _ _ _=>(Ze (i:=0) (show List.Nodup (["tie"]:List Str) by decide +kernel) rfl (Or.inl rfl))) (fun _ _ _ _=>ZZ) (fun _ _ _ _=>(@Zj _ _ _ _ _ _ _ _ ZQ1 (@Zj _ _ _ _ _ _ _ _ ZB1 Zz9 (pv 0)) Zz9))) rfl (.inl rfl))
   (@Zz2 _ _ _ _ _ (@Zf _ _ 10 _ _ _ _ scZL.nd rfl (Or.inl rfl) (Za (okZt T) (hr.mono (by decide)) rfl T.mZt T.fZt.kp T.bZt .nil Zq (Zz0 (pv 3) (Zz0 Zz9 Zz3))) rfl (.inl rfl))
   (@Zz2 _ _ _ _ _ (@Zj1 _ _ _ _ _ _ _ _ (PW.pt (ZI12 (Zg (Zp3 K (hu8 hr)) (Za (okZw T) (hr.mono (by decide)) rfl T.mZw T.fZw.kp T.bZw .nil Zq (Zz0 (pv 3) (Zz0 (pv 9) Zz3))) (pv 10) (Zr _)) (Ze9 (Zg ZZ5 (Za (okZz T) (hr.mono (by decide)) rfl T.mZz T.fZz.kp T.bZz .nil Zq (Zz0 (pv 3) (Zz0 (pv 9) Zz3))) Zz9 (Zr _)))))
   (@Zz6 _ _ _ (@Zo _ _ _ _ Zr7))
   Zs)
   (@Zz2 _ _ _ _ _ (@Zf _ _ 11 _ _ _ _ scZL.nd rfl (Or.inl rfl) (Zl (ZW4 K rfl) (by rfl) T.n_sum Boot.«sum» (Zz0 (Zc5 rfl (sc0:=Zz7 sZL) (N0:=["script","places","ties","web","lengths","count","cell","flat","number","rising","first","least_length"]) (N':=["tie","rising"]) (o:=1) (fr:=[9]) ⟨rfl,by decide +kernel,by decide +kernel,by decide +kernel,rfl,by decide +kernel⟩ (Zx2 K (pv 10)) (ZH (by decide)) (fun _ _ _ _=>(Ze (i:=0) (show List.Nodup (["tie","rising"]:List Str) by decide +kernel) rfl (Or.inl rfl))) (fun _ _ _ _=>ZZ) (fun _ _ _ _=>(@ZP _ _ _ _ _ _ _ (Zm K) (pv 1) (pv 0) (fun _ _=>rfl)))) Zz3)) rfl (.inl rfl))
   (@Zz6 _ _ _ (@Zo _ _ _ _ (Zs7 (Za (okZy T) (hr.mono (by decide)) rfl T.mZy T.fZy.kp T.bZy .nil Zq (Zz0 (pv 3) (Zz0 (pv 9) (Zz0 (pv 10) Zz3)))) (Zn9 (Zc2 (Zz26 K (hu8 hr)) (Za (okZD T hB) (hr.mono (by decide)) rfl T.mZD T.fZD.kp T.bZD .nil Zq (Zz0 (pv 3) (Zz0 (pv 9) (Zz0 Zz9 Zz3)))) (@Zz711 _ _ _ _ (@Zz611 _ _ _ _ _ _ _ (pv 11) (pv 10) rfl rfl) rfl) (Zr _))))))))))))))))))))),?_⟩
  have two:2<=sizeLine:=by decide
  refine⟨_,rfl,a,ns,10,20,rfl,hS,hn63,by decide,by decide,by decide,by decide,fun r l n xs ps H1 s1 hr1 hl0 hl1 hP hG hnm hcc=>?_⟩;refine⟨r,_,rfl,SqT.of hr1,rfl,_,_,rfl,_,_,rfl,rfl,?_⟩;have hlx:=hP.1
  obtain⟨g1,g2,g3,g4⟩:=id hG;refine⟨_,rfl,_,rfl,l,_,rfl,.inl (SqL.of hl1),fun lc hlc=>?_⟩;have t0:=Zz5 (o:=.lst xs) hlc
  have hlc2:(upd H1 lc (.lst xs)) lc=some (.lst xs):=Zz1;generalize upd H1 lc (.lst xs)=H2 at *;intro x dx nx ndx nex;have t1:Same H2 (upd (upd H2 dx (.own x)) x (.ins t.A_Web dx [])):=ZT (Zz5 ndx) (by rw[Zc (Yy03 nex)];exact nx)
  refine⟨x,dx,n,lc,false,xs,ps,rfl,Zz1,fun o=>?_,hP.same (t0.trans t1),hG,fun H3 hW k3=>⟨rfl,?_⟩⟩
  ·exact SqL.of (by rw[Zc (Zb hlc2 nx),Zc (Zb hlc2 nx),Zc (Zb hlc2 ndx)];exact hlc2)
  have t03:Same H1 H3:=t0.trans fun b o e=>k3 b o (t1 b o e) (Zb e nx);have hl3:=t03 _ _ hl1
  have hS3:=(s1.trans t03).seq hS;refine⟨_,rfl,_,rfl,l,xs,rfl,.inl (SqL.of hl3),a,ns,xs.length,rfl,hS3,by omega,fun LA ls H4 s4 hL0 hL4 hLl=>?_⟩;have hl:ls.length=ps.length:=by omega
  refine nm ?_;have sH4:Same H H4:=s1.trans (t03.trans s4)
  have hW4:=hW.same s4;refine⟨_,rfl,x,n,ps,rfl,hW4,hG,fun cc H5 hTC s5=>?_⟩;refine nm ?_;have sH5:=sH4.trans s5
  refine⟨_,rfl,a,ns,3,rfl,sH5.seq hS,by decide,fun z=>?_⟩;refine nm ?_;change tSeq _ _ _ [some (.ref a),some (.int n),some (.ref l),some (.ref x),some (.ref LA),some (.int cc),some (.int z),none,none,none,none,none] H5;have hl5:=(s4.trans s5) _ _ hl3
  have hL5:=s5 _ _ hL4;have hW5:=hW4.same s5
  obtain⟨f,hf⟩:∃ f:Int,f=z % 10 ^ (40:Int).toNat - 10 ^ (39:Int).toNat:=⟨_,rfl⟩;refine⟨_,rfl,l,rfl,⟨_,SqL.of hl5⟩,ZD1 (K:=K) (a:=l) (xs:=xs) (fun i ws H6=>H6=H5/\ws=IL (List.replicate i f)/\i<=xs.length) ⟨rfl,rfl,Yj _⟩ (Zn (by omega)) (fun i ws H6 hi ⟨e,ew,hi2⟩=>⟨e ▸ SqL.of hl5,by rw[ew,Zz4,YC];exact Yy7 _⟩) ?_ ?_⟩
  ·rintro i v ws H6 hi ⟨rfl,rfl,hil⟩ S hSS;refine nm ?_;refine⟨_,rfl,_,_,rfl,rfl,⟨by decide,by decide⟩,_,_,rfl,rfl,(by show(0:Int)<10 ^ Int.toNat 40;decide),_,_,rfl,rfl,⟨by decide,by decide⟩,_,_,rfl,rfl,?_⟩;refine hSS _ _ ⟨rfl,?_,(Yy2.mp hi).1⟩;rw[List.replicate_succ'];show IL _++[V.int (z % 10 ^ Int.toNat 40 - 10 ^ Int.toNat 39)]=_
   rw[<- hf];exact(ZR _ _).symm
  rintro ws H6 ⟨rfl,rfl,_⟩ fA hfA;rw[hlx];have v1:=Zz5 (o:=.lst (IL (List.replicate ps.length f))) hfA
  have kF:(upd H6 fA (.lst (IL (List.replicate ps.length f)))) fA=some (.lst (IL (List.replicate ps.length f))):=Zz1;refine nm ?_;change tSeq _ _ _ [some (.ref a),some (.int n),some (.ref l),some (.ref x),some (.ref LA),some (.int cc),some (.int z),some (.ref fA),none,none,none,none] (upd H6 fA (.lst (IL (List.replicate ps.length f))));generalize upd H6 fA (.lst (IL (List.replicate ps.length f)))=H7 at *;have hfl:(List.replicate ps.length f).length=ps.length:=YC
  have hW7:=hW5.same v1;have hL7:=v1 _ _ hL5
  have hl7:=v1 _ _ hl5;refine⟨_,rfl,_,rfl,x,fA,n,ps,_,rfl,hW7,hG,SqL.of kF,hfl,fun c1 H8 hc1 s8=>?_⟩;have e1:=ZA5 (fun T=>ZL4 hG f T) hc1 hTC
  subst e1;refine⟨_,rfl,rfl,_,rfl,?_⟩;refine itn rfl ?_;show(_:Prop)
  refine Zz87 ?_;have hW8:=hW7.same s8
  have hL8:=s8 _ _ hL7;have hl8:=s8 _ _ hl7
  have kF8:=s8 _ _ kF;have tab8:TabR H8 Pt:=hTb.same (sH5.trans (v1.trans s8))
  refine⟨_,rfl,rfl,_,rfl,?_⟩;rw[ZB];refine itd2 (fun e0=>?_) (fun e0=>?_)
  ·have hno:=(ZU1 hTC).mp (by omega);refine⟨_,rfl,_,rfl,x,LA,n,10,ps,false,ls,rfl,hW8,hG,SqL.of hL8,hl,by decide,by decide,tab8,fun fs L r3 H9 hrk hBf sx9 tab9 hr30 hr3=>?_⟩;have eL:=Za9 hrk hno
   subst eL;refine⟨Yj _,fun ee hee=>?_⟩;have w2:=Zz5 (o:=.lst []) hee
   refine⟨3,_,r3,ee,rfl,rfl,by decide,ZF6 (m:=[]) (SqL.of (w2 _ _ hr3)) (SqL.of Zz1) ((ZJ12 hBf).imp fun _ _ h=>RkV.same w2 h) ⟨rfl,fun i l e=>by simp at e⟩,?_⟩;rw[Yl (show List.map (fun T=>(sumL ls T,T)) []=[] from rfl)];refine⟨_,rfl,?_⟩;refine iteT ?_;refine⟨_,rfl,_,rfl,x,LA,n,ps,ls,rfl,(hW8.samex tab8 sx9).same w2,hG,SqL.of (w2 _ _ (sx9 _ _ (tab8.ne hL8 (by simp)) hL8)),hl,fun c2 HA hc2 sA=>?_⟩;have e2:c2=0:=(ZU1 hc2).mpr fun T hT=>hno T ((ZS1 hG hl).mp hT).1
   refine⟨rfl,?_⟩;rw[ZB,Yl (by omega)];exact k _
  show(_:Prop);refine Zz87 ?_;obtain⟨W0,hW0⟩:∃ W,Zd n ps W:=Yf fun no=>e0 (by have:=(ZU1 hTC).mpr fun T hT=>no ⟨T,hT⟩;omega);refine⟨_,rfl,_,rfl,_,rfl,_,rfl,_,_,rfl,rfl,⟨by decide,by decide⟩,_,_,rfl,rfl,(by show(0:Int)<10 ^ Int.toNat 30;decide),_,_,rfl,rfl,⟨by decide,by decide⟩,_,_,rfl,rfl,.inl ⟨by decide,by decide⟩,_,_,rfl,rfl,_,rfl,_,_,rfl,rfl,⟨by decide,by decide⟩,_,_,rfl,rfl,⟨by decide,by decide⟩,_,_,rfl,rfl,(by show(0:Int)<10 ^ Int.toNat 5;decide),_,_,rfl,rfl,?_⟩;refine⟨x,LA,n,_,_,ps,ls,rfl,hW8,hG,hL8,hl,tab8,?_,?_,⟨W0,hW0⟩,hnm,fun H9 sx9 tab9=>?_⟩
  ·show 0<1+z / 7 % 100000;omega
  ·show 1+z / 7 % 100000<2 ^ 40;omega
  refine⟨_,rfl,?_⟩;refine iteF ?_;show(_:Prop)
  refine Zz87 ?_;have hW9:=hW8.samex tab8 sx9
  have hl9:=sx9 _ _ (tab8.ne hl8 (by simp)) hl8;have kF9:=sx9 _ _ (tab8.ne kF8 (by simp)) kF8
  clear hW8 hL8 hl8 kF8 hW7 hL7 hl7;refine⟨_,rfl,z,11,rfl,fun q q0 q1=>⟨_,rfl,_,_,rfl,rfl,(by show(0:Int)<_;omega),?_⟩⟩;have b0:=Y0B q (show(c1:Int)≠0 from e0)
  have b1:=Y0q q (show(0:Int)<c1 by omega);have b2:q % (c1:Int)<=q:=by
   by_cases h:q<(c1:Int)
   ·rw[Int.emod_eq_of_lt q0 h];exact Y0v _
   ·omega
  refine nm ?_;change tSeq _ _ _ [some (.ref a),some (.int n),some (.ref l),some (.ref x),some (.ref LA),some (.int c1),some (.int z),some (.ref fA),some (.int (q % (c1:Int))),none,none,none] H9;generalize q % (c1:Int)=nb at *;have big:(2147483629:Int)<10 ^ 70:=by decide
  refine⟨_,rfl,_,rfl,_,rfl,x,fA,n,ps,_,nb,rfl,hW9,hG,SqL.of kF9,hfl,by omega,by omega,fun c2 hc2 _ _ U1 r1 HA hU1 hR1 sA hr1=>?_,fun h=>?_⟩;rotate_left
  ·exfalso;rcases h with h | ⟨c2,h1,h2⟩
   ·omega
   ·have:=ZA5 (fun T=>ZL4 hG f T) h1 hTC
    omega
  refine⟨_,rfl,_,rfl,x,n,ps,nb,rfl,hW9.same sA,hG,by omega,by omega,fun c3 hc3 _ _ U2 r2 HB hU2 hR2 sB hr2=>?_,fun h=>?_⟩;rotate_left
  ·exfalso;rcases h with h | ⟨c2,h1,h2⟩
   ·omega
   ·have:=hTC.uniq h1
    omega
  have eU:=ZF12 ((ZL4 hG f U1).mp hU1) hU2 (ZS10 (fun T=>ZL4 hG f T) hR1) hR2;subst eU;refine⟨1,_,r1,r2,rfl,rfl,by decide,Zi1 (SqT.of (sB _ _ hr1)) (SqT.of hr2),_,rfl,?_⟩;rw[Yl rfl];refine iteF ?_;show(_:Prop)
  refine Zz87 ?_;have s9B:=sA.trans sB
  have hlB:=s9B _ _ hl9;refine⟨_,rfl,l,xs,rfl,.inl (SqL.of hlB),_,rfl,by omega,by omega,Zl6 (lo:=0) (n:=(xs.length:Int).toNat) (fun i zs H2=>H2=HB/\zs=IL ((rgL i).map fun z=>3 * z - 7)) ⟨rfl,rfl⟩ (Zn (by omega)) (fun i zs H2 _ ⟨_,e⟩=>by rw[e,Zz4,Yb,Zy];exact Yy7 _) ?_ ?_⟩
  ·rintro i zs H2 hi ⟨rfl,rfl⟩ S hSS;refine nm ?_;refine⟨_,rfl,_,_,rfl,rfl,.inl ⟨by decide,by decide⟩,_,_,rfl,rfl,?_⟩;refine hSS _ _ ⟨rfl,?_⟩;rw[ZM5,YE,Y1S];exact(ZR _ _).symm
  rintro zs H2 ⟨rfl,rfl⟩ kA hkA;have ek:(rgL (xs.length:Int).toNat).map (fun z=>3 * z - 7)=rsL ps.length:=by rw[Yw,hlx];rfl
  rw[ek];have v2:=Zz5 (o:=.lst (IL (rsL ps.length))) hkA
  have kK:(upd H2 kA (.lst (IL (rsL ps.length)))) kA=some (.lst (IL (rsL ps.length))):=Zz1;refine nm ?_;change tSeq _ _ _ [some (.ref a),some (.int n),some (.ref l),some (.ref x),some (.ref LA),some (.int c1),some (.int z),some (.ref fA),some (.int nb),some (.ref kA),none,none] (upd H2 kA (.lst (IL (rsL ps.length))));generalize upd H2 kA (.lst (IL (rsL ps.length)))=HC at *;have hrl:=ZN10 ps.length
  have s9C:=s9B.trans v2;refine⟨_,rfl,x,n,ps,0,rfl,hW9.same s9C,hG,by decide,by decide,fun c3 hc3 _ _ F r3 HD hF hFr sD hr3=>?_,fun h=>?_⟩;rotate_left
  ·exfalso;rcases h with h | ⟨c2,h1,h2⟩
   ·omega
   ·have:=hTC.uniq h1
    omega
  refine nm ?_;have hFF:=ZD12 hG hF hFr
  have hFc:=Zz613 hG hrl hFF;have s9D:=s9C.trans sD
  refine⟨_,rfl,_,rfl,x,kA,n,ps,_,rfl,hW9.same s9D,hG,SqL.of (sD _ _ kK),hrl,fun B2 b2 HE hC1 hC2 sE hb2=>?_,fun h=>absurd hFc (h F)⟩;have eB:=(Zz810 hG hrl hC1 hC2).uniq hFF
  subst eB;refine⟨_,rfl,1,_,b2,r3,rfl,rfl,by decide,Zi1 (SqT.of hb2) (SqT.of (sE _ _ hr3)),_,rfl,?_⟩;rw[Yl rfl];refine iteF ?_;have s9E:=s9D.trans sE
  refine⟨_,rfl,_,rfl,x,kA,n,ps,_,rfl,hW9.same s9E,hG,SqL.of ((sD.trans sE) _ _ kK),hrl,fun c4 HF' hc4 sF=>?_⟩;have e4:=ZC10 hc4 hFc fun W hW=>Zz312 hG hrl (fun y z y0 y1 z0 z1 e=>by rw[Zh7 y0 y1,Zh7 z0 z1]at e;omega) hFc hW
  subst e4;refine⟨rfl,_,rfl,?_⟩;refine itn rfl ?_;show(_:Prop)
  refine Zz87 ?_;have sDF:=sE.trans sF
  have s9F:=s9D.trans sDF;have hr3F:=sDF _ _ hr3
  have kKF:=(sD.trans sDF) _ _ kK;have hms:=isSet_iff.mp hF.1
  have hUl:(B2.length:Int)=n - 1:=hF.2.1;refine⟨_,rfl,r3,rfl,⟨_,SqT.of hr3F⟩,Yz7 (K:=K) (a:=r3) (xs:=IL B2) (fun j ws H10=>H10=HF'/\ws=IL ((B2.take j).map (lnz (rsL ps.length)))/\j<=B2.length) ⟨rfl,rfl,Yj _⟩ (Zn (by rw[Zz4];omega)) (fun j ws H10 hj ⟨e,ew,hj2⟩=>⟨e ▸ SqT.of hr3F,by rw[ew,Zz4,Yb,Yz];omega⟩) ?_ ?_⟩
  ·rintro j v ws H10 hj ⟨rfl,rfl,hjl⟩ S2 hSS2;obtain⟨y,rfl,hy⟩:=ZW hj;obtain⟨z0,z1⟩:=hms.1 y (Yy6 hy);obtain⟨u,hu⟩:∃ u,(rsL ps.length)[y.toNat]?=some u:=⟨_,Yy0 (by rw[hrl];omega)⟩;refine nm ?_;refine⟨_,rfl,_,rfl,kA,_,_,.int u,rfl,rfl,SqL.of kKF,ZO (n:=y.toNat) (by omega) (Za3 hu),?_⟩;refine hSS2 _ _ ⟨rfl,?_,(Yy2.mp hy).1⟩;have e:lnz (rsL ps.length) y=u:=getD_of hu
   rw[YO,hy,YE];show _=IL (_++[lnz (rsL ps.length) y])
   rw[e];exact(ZR _ _).symm
  rintro ws H10 ⟨rfl,rfl,_⟩ lA hlA;rw[Zz4,YG];have u10:=Zz5 (o:=.lst (IL (B2.map (lnz (rsL ps.length))))) hlA
  refine⟨lA,_,rfl,SqL.of Zz1,?_⟩;refine nm ?_;dsimp only [List.set];change tRet _ _ [some (.ref a),some (.int n),some (.ref l),some (.ref x),some (.ref LA),some (.int c1),some (.int z),some (.ref fA),some (.int nb),some (.ref kA),some (.ref r3),some (.int (sumL (rsL ps.length) B2))] (upd H10 lA (.lst (IL (B2.map (lnz (rsL ps.length))))));generalize upd H10 lA (.lst (IL (B2.map (lnz (rsL ps.length)))))=HH at *;have s9H:=s9F.trans u10
  have kKH:=u10 _ _ kKF;have hr3H:=u10 _ _ hr3F
  have tabH:TabR HH Pt:=tab9.same s9H;have hgn:gns n ps (rsL ps.length) B2=[]:=(ZT9 hG hF).mpr ((ZS1 hG hrl).mp hFc).2
  refine⟨_,rfl,_,rfl,_,rfl,x,kA,r3,n,ps,false,true,_,B2,rfl,hW9.same s9H,hG,SqL.of kKH,SqT.of hr3H,fun _ _ HI sI=>?_,fun z=>absurd hrl z,fun _ z=>absurd hF z⟩;rw[Yl hgn];refine⟨_,rfl,?_⟩;refine iteT ?_;refine⟨_,rfl,_,rfl,x,kA,n,1,ps,false,_,rfl,hW9.same (s9H.trans sI),hG,SqL.of (sI _ _ kKH),hrl,by decide,by decide,tabH.same sI,fun fs L r4 HJ hrk hBf sxJ tabJ hr40 hr4=>?_⟩;have eL:=ZR10 hrk hFF
  subst eL;have tabI:=tabH.same sI
  have hr3J:=sxJ _ _ (tabI.ne (sI _ _ hr3H) (by simp)) (sI _ _ hr3H);refine⟨_,rfl,_,rfl,two,fun pa hpa=>⟨Nat.succ_le_of_lt (by decide),fun qa hqa=>?_⟩⟩;have x1:=Zz5 (o:=.tup [.int (sumL (rsL ps.length) B2),.ref r3]) hpa
  have x2:=Zz5 (o:=.lst [.ref pa]) hqa;refine⟨3,_,r4,qa,rfl,rfl,by decide,ZF6 (m:=[(sumL (rsL ps.length) B2,B2)]) (SqL.of ((x1.trans x2) _ _ hr4)) (SqL.of Zz1) ((ZJ12 hBf).imp fun _ _ h=>RkV.same (x1.trans x2) h) (Bears.snoc (xs:=[]) (l:=[]) ⟨rfl,fun i l e=>by simp at e⟩ ⟨pa,r3,rfl,x2 _ _ Zz1,(x1.trans x2) _ _ hr3J⟩),?_⟩;rw[Yl (show List.map (fun T=>(sumL (rsL ps.length) T,T)) [B2]=[(sumL (rsL ps.length) B2,B2)] from rfl)];exact k _
end
end My
namespace My
open PySem L2
theorem law_binds {K:PySem.W.Frag} {f:Addr} {fd:FuncData} (F:Fun K "law" "law" sZL f fd) (s:Shared) (u:Value):BindsTo s fd ⟨[u],[]⟩ [("script",u)]:=by obtain⟨oc,od,kV,doc,pm,an,cdv,ct,osl,rfl,lk,hcd⟩:=F.ex;exact .of_eq rfl
end My
open PySem PySem.W PyProof.Rows
set_option maxRecDepth 100000 in
set_option maxHeartbeats 0 in
theorem PySem.Challenge.cw_spanrow_k67_whole_lengths_changed_holds : PySem.Challenge.rw_spanrow_k67_whole_lengths_changed.Holds := by
 w_on;o_law;k_head;(case hw=>w_witness2)
 k_fill
 refine L2.walk_ofT (l:=PySem.Challenge.rw_spanrow_k67_whole_lengths_changed) (n:=63) (k:=12) (x:="script") (CX:=L2.CX0) (sp:=fun K=>My.spZL K 372) (c:=376) (Pt:=372) rfl (by decide) rfl ⟨rfl,by decide,by decide⟩ (fun w h Y=>⟨PySem.W.km_in_of Y,PySem.W.km_tabs_of Y 372 (Yy1.mpr rfl)⟩) ?C ?P ?F (fun _ H a ns hl hO hS=>⟨a,ns,rfl,hS,hl,⟨#[],hO.1,trivial,.inl rfl⟩,fun _=>rfl⟩) (fun _ _ _ _ z=>z)
 case C=>intro w;kernel_rfl
 case P=>intro w;kernel_rfl
 case F =>
  intro w mg fa h KX G hmg;obtain⟨aZ0,dZ0,mZ0,fZ0⟩:My.FX (L2.KOf KX) mg "refuse_not_square" "refuse_not_square" My.sZ0:=by dsimp only [L2.KOf];refine' My.fx_mk KX G ?a ?l ?c ?k;case a | l | c | k=>k_is
  obtain⟨aZ1,dZ1,mZ1,fZ1⟩:My.FX (L2.KOf KX) mg "row_taken_off" "row_taken_off" My.sZ1:=by dsimp only [L2.KOf];refine' My.fx_mk KX G ?a ?l ?c ?k;case a | l | c | k=>k_is
  obtain⟨aZ2,dZ2,mZ2,fZ2⟩:My.FX (L2.KOf KX) mg "first_with_some" "first_with_some" My.sZ2:=by dsimp only [L2.KOf];refine' My.fx_mk KX G ?a ?l ?c ?k;case a | l | c | k=>k_is
  obtain⟨aZ3,dZ3,mZ3,fZ3⟩:My.FX (L2.KOf KX) mg "determinant" "determinant" My.sZ3:=by dsimp only [L2.KOf];refine' My.fx_mk KX G ?a ?l ?c ?k;case a | l | c | k=>k_is
  obtain⟨aZ4,dZ4,mZ4,fZ4⟩:My.FX (L2.KOf KX) mg "row_without" "row_without" My.sZ4:=by dsimp only [L2.KOf];refine' My.fx_mk KX G ?a ?l ?c ?k;case a | l | c | k=>k_is
  obtain⟨aZ5,dZ5,mZ5,fZ5⟩:My.FX (L2.KOf KX) mg "table_without" "table_without" My.sZ5:=by dsimp only [L2.KOf];refine' My.fx_mk KX G ?a ?l ?c ?k;case a | l | c | k=>k_is
  obtain⟨aZ6,dZ6,mZ6,fZ6⟩:My.FX (L2.KOf KX) mg "is_tie" "is_tie" My.sZ6:=by dsimp only [L2.KOf];refine' My.fx_mk KX G ?a ?l ?c ?k;case a | l | c | k=>k_is
  obtain⟨aZ7,dZ7,mZ7,fZ7⟩:My.FX (L2.KOf KX) mg "refuse_bad_web" "refuse_bad_web" My.sZ7:=by dsimp only [L2.KOf];refine' My.fx_mk KX G ?a ?l ?c ?k;case a | l | c | k=>k_is
  obtain⟨aZ9,dZ9,mZ9,fZ9⟩:My.FX (L2.KOf KX) mg "refuse_bad_row" "refuse_bad_row" My.sZ9:=by dsimp only [L2.KOf];refine' My.fx_mk KX G ?a ?l ?c ?k;case a | l | c | k=>k_is
  obtain⟨aZa,dZa,mZa,fZa⟩:My.FX (L2.KOf KX) mg "all_ties" "all_ties" My.sZa:=by dsimp only [L2.KOf];refine' My.fx_mk KX G ?a ?l ?c ?k;case a | l | c | k=>k_is
  obtain⟨aZb,dZb,mZb,fZb⟩:My.FX (L2.KOf KX) mg "ties_without" "ties_without" My.sZb:=by dsimp only [L2.KOf];refine' My.fx_mk KX G ?a ?l ?c ?k;case a | l | c | k=>k_is
  obtain⟨aZc,dZc,mZc,fZc⟩:My.FX (L2.KOf KX) mg "is_set" "is_set" My.sZc:=by dsimp only [L2.KOf];refine' My.fx_mk KX G ?a ?l ?c ?k;case a | l | c | k=>k_is
  obtain⟨aZd,dZd,mZd,fZd⟩:My.FX (L2.KOf KX) mg "made_set" "made_set" My.sZd:=by dsimp only [L2.KOf];refine' My.fx_mk KX G ?a ?l ?c ?k;case a | l | c | k=>k_is
  obtain⟨aZe,dZe,mZe,fZe⟩:My.FX (L2.KOf KX) mg "merged_marks" "merged_marks" My.sZe:=by dsimp only [L2.KOf];refine' My.fx_mk KX G ?a ?l ?c ?k;case a | l | c | k=>k_is
  obtain⟨aZf,dZf,mZf,fZf⟩:My.FX (L2.KOf KX) mg "piece_marks" "piece_marks" My.sZf:=by dsimp only [L2.KOf];refine' My.fx_mk KX G ?a ?l ?c ?k;case a | l | c | k=>k_is
  obtain⟨aZg,dZg,mZg,fZg⟩:My.FX (L2.KOf KX) mg "pieces_of" "pieces_of" My.sZg:=by dsimp only [L2.KOf];refine' My.fx_mk KX G ?a ?l ?c ?k;case a | l | c | k=>k_is
  obtain⟨aZh,dZh,mZh,fZh⟩:My.FX (L2.KOf KX) mg "is_joined" "is_joined" My.sZh:=by dsimp only [L2.KOf];refine' My.fx_mk KX G ?a ?l ?c ?k;case a | l | c | k=>k_is
  obtain⟨aZi,dZi,mZi,fZi⟩:My.FX (L2.KOf KX) mg "refuse_parted" "refuse_parted" My.sZi:=by dsimp only [L2.KOf];refine' My.fx_mk KX G ?a ?l ?c ?k;case a | l | c | k=>k_is
  obtain⟨aZj,dZj,mZj,fZj⟩:My.FX (L2.KOf KX) mg "weighted_table" "weighted_table" My.sZj:=by dsimp only [L2.KOf];refine' My.fx_mk KX G ?a ?l ?c ?k;case a | l | c | k=>k_is
  obtain⟨aZk,dZk,mZk,fZk⟩:My.FX (L2.KOf KX) mg "pull_table" "pull_table" My.sZk:=by dsimp only [L2.KOf];refine' My.fx_mk KX G ?a ?l ?c ?k;case a | l | c | k=>k_is
  obtain⟨aZl,dZl,mZl,fZl⟩:My.FX (L2.KOf KX) mg "tree_count" "tree_count" My.sZl:=by dsimp only [L2.KOf];refine' My.fx_mk KX G ?a ?l ?c ?k;case a | l | c | k=>k_is
  obtain⟨aZm,dZm,mZm,fZm⟩:My.FX (L2.KOf KX) mg "part_count" "part_count" My.sZm:=by dsimp only [L2.KOf];refine' My.fx_mk KX G ?a ?l ?c ?k;case a | l | c | k=>k_is
  obtain⟨aZn,dZn,mZn,fZn⟩:My.FX (L2.KOf KX) mg "is_tree" "is_tree" My.sZn:=by dsimp only [L2.KOf];refine' My.fx_mk KX G ?a ?l ?c ?k;case a | l | c | k=>k_is
  obtain⟨aZo,dZo,mZo,fZo⟩:My.FX (L2.KOf KX) mg "refuse_no_tree" "refuse_no_tree" My.sZo:=by dsimp only [L2.KOf];refine' My.fx_mk KX G ?a ?l ?c ?k;case a | l | c | k=>k_is
  obtain⟨aZp,dZp,mZp,fZp⟩:My.FX (L2.KOf KX) mg "grown_tree" "grown_tree" My.sZp:=by dsimp only [L2.KOf];refine' My.fx_mk KX G ?a ?l ?c ?k;case a | l | c | k=>k_is
  obtain⟨aZq,dZq,mZq,fZq⟩:My.FX (L2.KOf KX) mg "least_tree" "least_tree" My.sZq:=by dsimp only [L2.KOf];refine' My.fx_mk KX G ?a ?l ?c ?k;case a | l | c | k=>k_is
  obtain⟨aZr,dZr,mZr,fZr⟩:My.FX (L2.KOf KX) mg "tree_cut" "tree_cut" My.sZr:=by dsimp only [L2.KOf];refine' My.fx_mk KX G ?a ?l ?c ?k;case a | l | c | k=>k_is
  obtain⟨aZs,dZs,mZs,fZs⟩:My.FX (L2.KOf KX) mg "exchanges_of" "exchanges_of" My.sZs:=by dsimp only [L2.KOf];refine' My.fx_mk KX G ?a ?l ?c ?k;case a | l | c | k=>k_is
  obtain⟨aZt,dZt,mZt,fZt⟩:My.FX (L2.KOf KX) mg "tree_at" "tree_at" My.sZt:=by dsimp only [L2.KOf];refine' My.fx_mk KX G ?a ?l ?c ?k;case a | l | c | k=>k_is
  obtain⟨aZu,dZu,mZu,fZu⟩:My.FX (L2.KOf KX) mg "length_of" "length_of" My.sZu:=by dsimp only [L2.KOf];refine' My.fx_mk KX G ?a ?l ?c ?k;case a | l | c | k=>k_is
  obtain⟨aZv,dZv,mZv,fZv⟩:My.FX (L2.KOf KX) mg "cheapest_web" "cheapest_web" My.sZv:=by dsimp only [L2.KOf];refine' My.fx_mk KX G ?a ?l ?c ?k;case a | l | c | k=>k_is
  obtain⟨aZw,dZw,mZw,fZw⟩:My.FX (L2.KOf KX) mg "cheapest_tree" "cheapest_tree" My.sZw:=by dsimp only [L2.KOf];refine' My.fx_mk KX G ?a ?l ?c ?k;case a | l | c | k=>k_is
  obtain⟨aZx,dZx,mZx,fZx⟩:My.FX (L2.KOf KX) mg "gains_of" "gains_of" My.sZx:=by dsimp only [L2.KOf];refine' My.fx_mk KX G ?a ?l ?c ?k;case a | l | c | k=>k_is
  obtain⟨aZy,dZy,mZy,fZy⟩:My.FX (L2.KOf KX) mg "is_cheapest" "is_cheapest" My.sZy:=by dsimp only [L2.KOf];refine' My.fx_mk KX G ?a ?l ?c ?k;case a | l | c | k=>k_is
  obtain⟨aZz,dZz,mZz,fZz⟩:My.FX (L2.KOf KX) mg "cheapest_count" "cheapest_count" My.sZz:=by dsimp only [L2.KOf];refine' My.fx_mk KX G ?a ?l ?c ?k;case a | l | c | k=>k_is
  obtain⟨aZA,dZA,mZA,fZA⟩:My.FX (L2.KOf KX) mg "cheapest_at" "cheapest_at" My.sZA:=by dsimp only [L2.KOf];refine' My.fx_mk KX G ?a ?l ?c ?k;case a | l | c | k=>k_is
  obtain⟨aZB,dZB,mZB,fZB⟩:My.FX (L2.KOf KX) mg "first_of" "first_of" My.sZB:=by dsimp only [L2.KOf];refine' My.fx_mk KX G ?a ?l ?c ?k;case a | l | c | k=>k_is
  obtain⟨aZC,dZC,mZC,fZC⟩:My.FX (L2.KOf KX) mg "firsts_behind" "firsts_behind" My.sZC:=by dsimp only [L2.KOf];refine' My.fx_mk KX G ?a ?l ?c ?k;case a | l | c | k=>k_is
  obtain⟨aZD,dZD,c_lam,mZD,fZD,e_lam,z_lam⟩:My.FXL (L2.KOf KX) mg "ranked" "ranked" My.sZD 372:=by dsimp only [L2.KOf];refine' My.fxl_mk KX G ?a ?l ?c ?k ?z;(case a | l | c | k=>k_is);(case z=>kernel_rfl)
  obtain⟨aZE,dZE,mZE,fZE⟩:My.FX (L2.KOf KX) mg "_law_at" "_law_at" My.sZE:=by dsimp only [L2.KOf];refine' My.fx_mk KX G ?a ?l ?c ?k;case a | l | c | k=>k_is
  obtain⟨aZF,dZF,mZF,fZF⟩:My.FX (L2.KOf KX) mg "_law_stir" "_law_stir" My.sZF:=by dsimp only [L2.KOf];refine' My.fx_mk KX G ?a ?l ?c ?k;case a | l | c | k=>k_is
  obtain⟨aZG,dZG,mZG,fZG⟩:My.FX (L2.KOf KX) mg "_law_numbers" "_law_numbers" My.sZG:=by dsimp only [L2.KOf];refine' My.fx_mk KX G ?a ?l ?c ?k;case a | l | c | k=>k_is
  obtain⟨aZH,dZH,mZH,fZH⟩:My.FX (L2.KOf KX) mg "_law_digits" "_law_digits" My.sZH:=by dsimp only [L2.KOf];refine' My.fx_mk KX G ?a ?l ?c ?k;case a | l | c | k=>k_is
  obtain⟨aZI,dZI,mZI,fZI⟩:My.FX (L2.KOf KX) mg "_law_web" "_law_web" My.sZI:=by dsimp only [L2.KOf];refine' My.fx_mk KX G ?a ?l ?c ?k;case a | l | c | k=>k_is
  obtain⟨aZJ,dZJ,mZJ,fZJ⟩:My.FX (L2.KOf KX) mg "_law_lengths" "_law_lengths" My.sZJ:=by dsimp only [L2.KOf];refine' My.fx_mk KX G ?a ?l ?c ?k;case a | l | c | k=>k_is
  obtain⟨aZK,dZK,mZK,fZK⟩:My.FX (L2.KOf KX) mg "_law_alike" "_law_alike" My.sZK:=by dsimp only [L2.KOf];refine' My.fx_mk KX G ?a ?l ?c ?k;case a | l | c | k=>k_is
  obtain⟨aZL,dZL,mZL,fZL⟩:My.FX (L2.KOf KX) mg "law" "law" My.sZL:=by dsimp only [L2.KOf];refine' My.fx_mk KX G ?a ?l ?c ?k;case a | l | c | k=>k_is
  have h_Web:My.CXF (L2.KOf KX) mg "Web" "Web.__init__" My.sZ8 ["places","ties"]:=by
   dsimp only [L2.KOf];refine' My.cx_mk KX G ?aC ?a ?i ?l ?c ?k ?pg ?hd ?po ?sa ?mk ?kc ?na
   (case aC=>k_is);(case a=>k_is);(case i=>k_is);(case l=>k_is);(case c=>k_is);(case k=>k_is)
   (case pg=>k_is);(case hd=>k_is);(case po=>k_is);(case sa=>k_is);(case mk=>k_is);(case kc=>k_is)
   (case na=>(intro f hf;simp only [Yh,List.not_mem_nil,or_false]at hf;rcases hf with rfl | rfl <;> k_is))
  have h_MOST_PLACES:∃ tk,mg "MOST_PLACES"=some (.int 14 tk):=by
   refine' My.const_mk KX G ?a ?b
   (case a=>k_is);(case b=>exact⟨_,rfl⟩)
  have h_MOST_TIES:∃ tk,mg "MOST_TIES"=some (.int 30 tk):=by
   refine' My.const_mk KX G ?a ?b
   (case a=>k_is);(case b=>exact⟨_,rfl⟩)
  have h_enumerate:mg "enumerate"=none:=by refine' Y0e KX G ?a;case a=>k_is
  have h_len:mg "len"=none:=by refine' Y0e KX G ?a;case a=>k_is
  have h_list:mg "list"=none:=by refine' Y0e KX G ?a;case a=>k_is
  have h_max:mg "max"=none:=by refine' Y0e KX G ?a;case a=>k_is
  have h_min:mg "min"=none:=by refine' Y0e KX G ?a;case a=>k_is
  have h_range:mg "range"=none:=by refine' Y0e KX G ?a;case a=>k_is
  have h_set:mg "set"=none:=by refine' Y0e KX G ?a;case a=>k_is
  have h_sorted:mg "sorted"=none:=by refine' Y0e KX G ?a;case a=>k_is
  have h_sum:mg "sum"=none:=by refine' Y0e KX G ?a;case a=>k_is
  have h_tuple:mg "tuple"=none:=by refine' Y0e KX G ?a;case a=>k_is
  have h_zip:mg "zip"=none:=by refine' Y0e KX G ?a;case a=>k_is
  obtain⟨A_Web,aZ8,dZ8,c_Web,fZ8,cl_Web,k_Web,na_Web⟩:=h_Web;have T:My.Txt (L2.KOf KX) mg ⟨aZ0,dZ0,aZ1,dZ1,aZ2,dZ2,aZ3,dZ3,aZ4,dZ4,aZ5,dZ5,aZ6,dZ6,aZ7,dZ7,aZ8,dZ8,aZ9,dZ9,aZa,dZa,aZb,dZb,aZc,dZc,aZd,dZd,aZe,dZe,aZf,dZf,aZg,dZg,aZh,dZh,aZi,dZi,aZj,dZj,aZk,dZk,aZl,dZl,aZm,dZm,aZn,dZn,aZo,dZo,aZp,dZp,aZq,dZq,aZr,dZr,aZs,dZs,aZt,dZt,aZu,dZu,aZv,dZv,aZw,dZw,aZx,dZx,aZy,dZy,aZz,dZz,aZA,dZA,aZB,dZB,aZC,dZC,aZD,dZD,aZE,dZE,aZF,dZF,aZG,dZG,aZH,dZH,aZI,dZI,aZJ,dZJ,aZK,dZK,aZL,dZL,A_Web⟩:=⟨fZ0,fZ0.binds (fun _ _ _ _ _ _=>My.un1 fun _=>rfl),mZ0,fZ1,fZ1.binds (fun _ _ _ _ _ _=>My.un3 fun _ _ _=>rfl),mZ1,fZ2,fZ2.binds (fun _ _ _ _ _ _=>My.un1 fun _=>rfl),mZ2,fZ3,fZ3.binds (fun _ _ _ _ _ _=>My.un1 fun _=>rfl),mZ3,fZ4,fZ4.binds (fun _ _ _ _ _ _=>My.un2 fun _ _=>rfl),mZ4,fZ5,fZ5.binds (fun _ _ _ _ _ _=>My.un2 fun _ _=>rfl),mZ5,fZ6,fZ6.binds (fun _ _ _ _ _ _=>My.un2 fun _ _=>rfl),mZ6,fZ7,fZ7.binds (fun _ _ _ _ _ _=>My.un2 fun _ _=>rfl),mZ7,fZ8,fZ8.binds (fun _ _ _ _ _ _=>My.un3 fun _ _ _=>rfl),fZ9,fZ9.binds (fun _ _ _ _ _ _=>My.un2 fun _ _=>rfl),mZ9,fZa,fZa.binds (fun _ _ _ _ _ _=>My.un1 fun _=>rfl),mZa,fZb,fZb.binds (fun _ _ _ _ _ _=>My.un2 fun _ _=>rfl),mZb,fZc,fZc.binds (fun _ _ _ _ _ _=>My.un2 fun _ _=>rfl),mZc,fZd,fZd.binds (fun _ _ _ _ _ _=>My.un2 fun _ _=>rfl),mZd,fZe,fZe.binds (fun _ _ _ _ _ _=>My.un3 fun _ _ _=>rfl),mZe,fZf,fZf.binds (fun _ _ _ _ _ _=>My.un2 fun _ _=>rfl),mZf,fZg,fZg.binds (fun _ _ _ _ _ _=>My.un2 fun _ _=>rfl),mZg,fZh,fZh.binds (fun _ _ _ _ _ _=>My.un2 fun _ _=>rfl),mZh,fZi,fZi.binds (fun _ _ _ _ _ _=>My.un1 fun _=>rfl),mZi,fZj,fZj.binds (fun _ _ _ _ _ _=>My.un2 fun _ _=>rfl),mZj,fZk,fZk.binds (fun _ _ _ _ _ _=>My.un1 fun _=>rfl),mZk,fZl,fZl.binds (fun _ _ _ _ _ _=>My.un1 fun _=>rfl),mZl,fZm,fZm.binds (fun _ _ _ _ _ _=>My.un3 fun _ _ _=>rfl),mZm,fZn,fZn.binds (fun _ _ _ _ _ _=>My.un2 fun _ _=>rfl),mZn,fZo,fZo.binds (fun _ _ _ _ _ _=>My.un2 fun _ _=>rfl),mZo,fZp,fZp.binds (fun _ _ _ _ _ _=>My.un3 fun _ _ _=>rfl),mZp,fZq,fZq.binds (fun _ _ _ _ _ _=>My.un1 fun _=>rfl),mZq,fZr,fZr.binds (fun _ _ _ _ _ _=>My.un3 fun _ _ _=>rfl),mZr,fZs,fZs.binds (fun _ _ _ _ _ _=>My.un2 fun _ _=>rfl),mZs,fZt,fZt.binds (fun _ _ _ _ _ _=>My.un2 fun _ _=>rfl),mZt,fZu,fZu.binds (fun _ _ _ _ _ _=>My.un3 fun _ _ _=>rfl),mZu,fZv,fZv.binds (fun _ _ _ _ _ _=>My.un2 fun _ _=>rfl),mZv,fZw,fZw.binds (fun _ _ _ _ _ _=>My.un2 fun _ _=>rfl),mZw,fZx,fZx.binds (fun _ _ _ _ _ _=>My.un3 fun _ _ _=>rfl),mZx,fZy,fZy.binds (fun _ _ _ _ _ _=>My.un3 fun _ _ _=>rfl),mZy,fZz,fZz.binds (fun _ _ _ _ _ _=>My.un2 fun _ _=>rfl),mZz,fZA,fZA.binds (fun _ _ _ _ _ _=>My.un3 fun _ _ _=>rfl),mZA,fZB,fZB.binds (fun _ _ _ _ _ _=>My.un5 fun _ _ _ _ _=>rfl),mZB,fZC,fZC.binds (fun _ _ _ _ _ _=>My.un4 fun _ _ _ _=>rfl),mZC,fZD,fZD.binds (fun _ _ _ _ _ _=>My.un3 fun _ _ _=>rfl),mZD,fZE,fZE.binds (fun _ _ _ _ _ _=>My.un2 fun _ _=>rfl),mZE,fZF,fZF.binds (fun _ _ _ _ _ _=>My.un2 fun _ _=>rfl),mZF,fZG,fZG.binds (fun _ _ _ _ _ _=>My.un3 fun _ _ _=>rfl),mZG,fZH,fZH.binds (fun _ _ _ _ _ _=>My.un3 fun _ _ _=>rfl),mZH,fZI,fZI.binds (fun _ _ _ _ _ _=>My.un3 fun _ _ _=>rfl),mZI,fZJ,fZJ.binds (fun _ _ _ _ _ _=>My.un2 fun _ _=>rfl),mZJ,fZK,fZK.binds (fun _ _ _ _ _ _=>My.un5 fun _ _ _ _ _=>rfl),mZK,fZL,fZL.binds (fun _ _ _ _ _ _=>My.un1 fun _=>rfl),mZL,c_Web,cl_Web,k_Web,na_Web _ (by simp),na_Web _ (by simp),h_MOST_PLACES,h_MOST_TIES,h_enumerate,h_len,h_list,h_max,h_min,h_range,h_set,h_sorted,h_sum,h_tuple,h_zip⟩
  have e0:=hmg.symm.trans mZL;cases e0;exact⟨dZL,fun s u=>My.law_binds fZL s u,fun base _ _ HB=>My.okZL T ⟨c_lam,e_lam,z_lam,HB,by decide⟩⟩
#print axioms PySem.Challenge.cw_spanrow_k67_whole_lengths_changed_holds
