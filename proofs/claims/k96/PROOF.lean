import PyProof.Rows.All
import Wide.All
import OpenK.AllK
import Wide.FinOn
import Lean
import PyProof.EqAt
import PyProof.EqKinds
import PyProof.TupleCall
import PySem.Challenge.RW_spanrow_k96_whole_walks_along_the_row
set_option Elab.async false
set_option linter.all false
set_option maxRecDepth 100000
namespace PySem.W.Fast
def tw2751997428099148664:=0
def tw17033608784920895340:=0
def tw5435006861661022031:=0
def tw803986345744532205:=0
def tw14992582012823598097:=0
def tw1177555130495986883:=0
def tw18056873681116863774:=0
def tw8882006234077272998:=0
def tw1003281837227511472:=0
def tw17445148165893255804:=0
def tw18099731025808048191:=0
def tw5059162554317061316:=0
def tw10907224229126428443:=0
def tw5976066170705525537:=0
def tw13450803279020610047:=0
def tw16191295799574576616:=0
def tw12582539037300005654:=0
def tw13514557738921071333:=0
def tw8534640628265861037:=0
def tw9108297217331525858:=0
def tw1010199108258596635:=0
def tw5952082387046551943:=0
def tw15208509089321729170:=0
def tw64961360678038588:=0
def tw15629675168455787274:=0
def tw5402348638669597811:=0
def tw16814463662085737353:=0
def tw14602029381194606848:=0
def tw18245526520744397951:=0
def tw5479382917520964435:=0
def tw1809611964344126790:=0
def tw7797931440078828631:=0
def tw5799482192781610671:=0
def tw12322404821584155924:=0
def tw6382591056190150140:=0
def tw16959472213484336372:=0
def tw6303119714369464301:=0
def tw380786207348574963:=0
def tw6478230454745334563:=0
def tw10796451275868632494:=0
def tw10431066133327862139:=0
def tw269615811542775680:=0
def tw13530328126417020985:=0
def tw7662589362056859059:=0
def tw330416714001649651:=0
def tw6055835724226981933:=0
def tw18026610872803323556:=0
def tw17158645431500208684:=0
def tw1320516072701165804:=0
def tw8073022625072516445:=0
def tw2551639624616924641:=0
def tw1132153336613101749:=0
def tw11001007918098994550:=0
def tw775784800285358211:=0
def tw3269445635794667025:=0
def tw3340099095275948240:=0
def tw7032768768814530412:=0
def tw1543001721835949576:=0
def tw17795955924880222522:=0
def tw12819896388970310967:=0
def tw9369921786086205040:=0
def tw11989538191472795918:=0
def tw8726201932370117842:=0
def tw11622541480903699594:=0
def tw13801540405429748583:=0
def tw2350363856204628280:=0
def tw13098430179099805596:=0
def tw16062734932872755272:=0
def tw279800007764722313:=0
def tw7003850186970165196:=0
def tw14542952659417183093:=0
def tw6302208015012325392:=0
def tw2247623122013973498:=0
def tw9210341829953054857:=0
def tw3270857915148729895:=0
def tw16126785017001144296:=0
def tw5725750226493277451:=0
def tw14325808156005052974:=0
def tw14490212521854815973:=0
def tw1891933626875998721:=0
def tw8720955867684183299:=0
def tw1638411521861965922:=0
def tw6884503546561568144:=0
def tw11642672558063878437:=0
def tw6673032607053104151:=0
def tw10657130772065065102:=0
def tw11666931587246172362:=0
def tw8283560264612643337:=0
def tw11419737799951718291:=0
def tw13614816864974124601:=0
def tw17326962379399286014:=0
def tw15543749793307574742:=0
def tw2443866564171230515:=0
def tw6218169574355501108:=0
def tw6601843653005005293:=0
def tw8410184852639136847:=0
def tw2764215268825890235:=0
def tw14322751208685765377:=0
def tw4829872825717748702:=0
def tw4132894737116258866:=0
def tw7048375415074671321:=0
def tw15228356726738572230:=0
def tw3900807138897037247:=0
def tw1987424745794552515:=0
def tw16298979367688458586:=0
def tw774616290312067399:=0
def tw4551802383497375687:=0
def tw3985652911092367038:=0
def tw5093230646954063001:=0
def tw7477756815573602657:=0
def tw7375866572258949098:=0
def tw12695677936839733403:=0
def tw4946226707997676615:=0
def tw5421134027953148350:=0
def tw14291290453214477341:=0
def tw18229818725503879852:=0
def tw7101899217750908019:=0
def tw16494685551527863877:=0
def tw6151633205272329187:=0
def tw6528242201228732126:=0
def tw5043916469922990087:=0
def tw2196220968781809224:=0
def tw3671120142571900416:=0
def tw11381162844647249794:=0
def tw18314012688516626806:=0
def tw1903002697027990784:=0
def tw11863657809432291589:=0
def tw6859171089943871508:=0
def tw6199497183865850060:=0
def tw14784345976127080796:=0
def tw15179445387671800577:=0
def tw11956434413873398496:=0
def tw8656452898863328682:=0
def tw15289309288283278130:=0
def tw953878789002707153:=0
def tw13509360920489000903:=0
def tw12409883514254730145:=0
def tw4439535286468113827:=0
def tw17247636424764345441:=0
def tw16906688920817592919:=0
def tw2294815777591156834:=0
def tw1854180116840737139:=0
def tw9040470876774743743:=0
def tw17065438527976449386:=0
def tw13194522660082032927:=0
def tw8027768154760005972:=0
def tw3356317776866310576:=0
def tw1795898790565599179:=0
def tw11111653527281338579:=0
def tw12426998081599141954:=0
def tw17335470572065650411:=0
def tw13923405897203966544:=0
def tw9071487993399375405:=0
def tw17926295272536078594:=0
def tw11777054729079474706:=0
def tw14343681831831287352:=0
def tw325737378415847688:=0
def tw16771124265209166530:=0
def tw5017289291690522424:=0
def tw15401894177749276425:=0
def tw4879858078353573449:=0
def tw9456143309523719135:=0
def tw2654358300486915065:=0
def tw17303176464359810585:=0
def tw7573884520071146247:=0
def tw14364831215598122025:=0
def tw11877378314121758419:=0
def tw971025651599289752:=0
def tw18068229080638123778:=0
def tw287359815537441412:=0
def tw15557022949469390268:=0
def tw16581774780459703434:=0
def tw2730980708467062568:=0
def tw16250927127514431644:=0
def tw7503269832838277644:=0
def tw10019383008722325070:=0
def tw6139072529008431920:=0
def tw17332844636397973670:=0
def tw15422780492712833287:=0
def tw14073876403601127548:=0
def tw13101597968551555783:=0
def tw108498636767101936:=0
def tw17537526888847936929:=0
def tw9683525893947790550:=0
def tw16646086745622718569:=0
def tw12329637799717833179:=0
def tw8271830581297657287:=0
def tw8255258524477115682:=0
def tw4541013058955769873:=0
def tw16914645690450063237:=0
def tw14180817877692796149:=0
def tw15851299212537495505:=0
def tw4778363920928829089:=0
def tw419177698571924784:=0
def tw2542345979041820765:=0
def tw10452892342125617073:=0
def tw8474042721047256220:=0
def tw4949144491087080545:=0
def tw10427263811262542359:=0
def tw17818882431255955044:=0
def tw7343728904292390514:=0
def tw13750461405942021037:=0
def tw11492500407948755188:=0
def tw5156003553556165624:=0
def tw2872393482006577991:=0
def tw16570961689973958849:=0
def tw17100541698104652456:=0
def tw5000411392279265754:=0
def tw14751551005875006701:=0
def tw10279269649025006267:=0
def tw16393158751039047159:=0
def tw14766507617678271686:=0
def tw6588503946146234932:=0
def tw7325719924225774378:=0
def tw8070727963456955390:=0
def tw5868341594333644324:=0
def tw11016170245176273035:=0
def tw6477160372146961072:=0
def tw2848842324297322476:=0
def tw14650325248772290909:=0
def tw6275700271879705951:=0
def tw3465961971303134974:=0
def tw14051336575256229997:=0
def tw3065436814531022928:=0
def tw9907394901122135921:=0
def tw18068116348786986560:=0
def tw14649314075737884153:=0
def tw13475668481017629558:=0
def tw7668421271874052713:=0
def tw604168463659922042:=0
def tw12647025441198357030:=0
def tw16402584860933766334:=0
def tw10586080462432826933:=0
def tw16332179990449469994:=0
def tw5177422002093172379:=0
def tw15249638614412473832:=0
def tw2182727551300359917:=0
def tw17634771004082759652:=0
def tw16928314897243165903:=0
def tw7754023016307852399:=0
def tw17816053615309284386:=0
def tw12028151709875094497:=0
def tw10026052106992232588:=0
def tw9791750984893990610:=0
def tw7914502013367106152:=0
def tw6687855065389686588:=0
def tw5749177438472938238:=0
def tw12683104076748407631:=0
def tw2502592876208987177:=0
def tw10304034605761524426:=0
def tw1175086417863587505:=0
def tw4123812967383338628:=0
def tw10031154050484837549:=0
def tw8337641485596692055:=0
def tw3427471521786240205:=0
def tw10565764050287337473:=0
def tw306425610419513481:=0
def tw13817102471238164171:=0
def tw11374935400304514343:=0
def tw4362997594291703565:=0
def tw17246532963734041899:=0
def tw7067635508678337108:=0
def tw17127596303349808164:=0
def tw1618872175842605296:=0
def tw6837191368917678355:=0
def tw4356408702307893950:=0
def tw8340811151346083599:=0
def tw18424176427575911880:=0
def tw3622807197417602323:=0
def tw18065099125625827895:=0
def tw3244105227417661264:=0
def tw1934330284274843380:=0
def tw17377621832663091619:=0
def tw12507057547180549227:=0
def tw11415125271628509442:=0
def tw6620045872904583452:=0
def tw2775118251423189225:=0
def tw9687097055669507258:=0
def tw4688964225098414988:=0
def tw1252752203772520278:=0
def tw10775790476311613853:=0
def tw5225898439851320770:=0
def tw7207477880394228612:=0
def tw10070762824536223360:=0
def tw8896728269277950332:=0
def tw5229338614476280981:=0
def tw8417091242354169383:=0
def tw311614223158278324:=0
def tw1621062036012039299:=0
def tw17924949443837031407:=0
def tw11072290403413654422:=0
def tw2359440085965774921:=0
def tw1942072324794591036:=0
def tw13540012216900087413:=0
def tw4156328681913270870:=0
def tw13684456316631899265:=0
def tw11568336925526362503:=0
def tw5438941669347635960:=0
def tw15983461862017928763:=0
def tw14922698690508443837:=0
def tw1629942495232316516:=0
def tw13712509701999495361:=0
def tw889606531077288201:=0
def tw5116394412220328748:=0
def tw1894368790330706669:=0
def tw9220498303037331502:=0
def tw6259817181299036338:=0
def tw5114362306880735553:=0
def tw3596867595878946271:=0
def tw3020809163668834592:=0
def tw2646230835798318746:=0
def tw2588598999473222404:=0
def tw10994649661705012681:=0
def tw3333555356887217916:=0
def tw8421916719363348021:=0
end PySem.W.Fast
abbrev Aa:=List (Int × Int)
abbrev Ab:=List (List Int)
abbrev Ac:=List Int
abbrev Ad:=PySem.W.Frag
abbrev Ae:=PySem.Value->PySem.Shared->Prop
abbrev Af:=PySem.Str->Option PySem.Value
abbrev Ag:=List PySem.Value
def Xu:=@List.getElem?_eq_getElem
def Xm:=@List.getElem?_eq_some_iff
def XC:=@List.mem_singleton
def Xv:=@List.length_append
def XT:=@PySem.wpAny_bind
def Xi:=@List.mem_of_getElem?
def WZ:=@PySem.Heap.get?_push_of_some
def Xr:=@List.mem_append
def WO:=@List.getD_eq_getElem?_getD
def XJ:=@Nat.le_refl
def Ya:=@List.length_map
def Yb:=@List.size_toArray
def Yc:=@List.mem_cons_self
def Yd:=@List.mem_filter
def Ye:=@List.mem_append_left
def Yf:=@List.mem_cons_of_mem
def Yg:=@List.mem_append_right
def Yh:=@List.mem_cons
def Yi:=@Option.some.inj
def Yj:=@List.length_take
def Yk:=@Nat.zero_le
def Yl:=@PySem.Heap.get?_push_size
def Ym:=@PySem.wpAny_pure
def Yn:=@List.getElem?_map
def Yo:=@of_decide_eq_true
def Yp:=@List.length_singleton
def Yq:=@PySem.Heap.lt_size
def Yr:=@decide_eq_true
def Ys:=@List.getElem?_append_right
def Yt:=@List.length_cons
def Yu:=@List.getElem?_append_left
def Yv:=@Nat.le_trans
def Yw:=@Nat.lt_of_lt_of_le
def Yx:=@Classical.byContradiction
def Yy:=@Bool.false_ne_true
def Yz:=@Nat.ne_of_lt
def YA:=@List.take_length
def YB:=@Array.length_toList
def YC:=@Array.getD_eq_getD_getElem?
def YD:=@List.mem_map
def YE:=@List.append_nil
def YF:=@List.length_filter_le
def YG:=@Array.getElem?_eq_getElem
def YH:=@Int.toNat_natCast
def YI:=@List.mem_range
def YJ:=@List.map_append
def YK:=@List.length_replicate
def YL:=@List.take_succ
def YM:=@decide_eq_true_iff
def YN:=@List.filter_cons
def YO:=@List.take_of_length_le
def QP:=@PySem.Heap.get?_update_other
def YQ:=@PySem.PassesOwn.never
def YR:=@List.length_reverse
def YS:=@Array.getElem?_toList
def YT:=@decide_eq_false
def YU:=@PySem.W.mg_none_of
def YV:=@List.pairwise_cons
def YW:=@PySem.F.plainAttrs_list
def YX:=@List.length_eq_zero_iff
def YY:=@Int.emod_nonneg
def YZ:=@Int.emod_lt_of_pos
def Wr:=@List.nodup_append
def Wx:=@List.length_drop
def Xx:=@congrArg
def VU:=@List.map_congr_left
def XG:=@Ne.symm
def WL:=@List.map_cons
def Vq:=@List.getElem?_eq_none
def Wq:=@Nat.not_lt_zero
def Vp:=@PySem.Heap.get?_update_self
def Uc:=@PyProof.Rows.callWith_type1
def QG:=@List.getElem?_of_mem
def Rf:=@List.filter_append
def Sb:=@List.all_eq_true
def Rc:=@List.append_assoc
def Mz:=@PySem.F.type_list_append
def Mw:=@PySem.F.slot_list_append
def Le:=@List.perm_ext_iff_of_nodup
def Sa:=@Bool.eq_iff_iff
def QF:=@PySem.wpAny_truthy_bool
def Rb:=@List.nodup_cons
def Td:=@PySem.wpAny_holding
def OS:=@PySem.wpAny_Call_Name_kw
def OR:=@PySem.Obj.data_mapFields
def Od:=@List.length_zipWith
def Uq:=@Nat.le_succ
def Mv:=@List.getElem?_zipWith
def OQ:=@List.length_range
def Sz:=@Int.mul_assoc
def Ra:=@PySem.codeAny_builtin
def OP:=@Nat.lt_succ_self
def RZ:=@Nat.lt_irrefl
def Ik:=@List.pairwise_iff_getElem
def Sy:=@Int.mul_zero
def GO:=@List.take_append_of_le_length
def Mu:=@PySem.Heap.SameBut.update
def Tc:=@Int.one_mul
def RY:=@Nat.ne_of_gt
def Ld:=@List.pairwise_append
def Oc:=@List.getElem_mem
def RX:=@Int.add_zero
def Mt:=@List.pairwise_map
def Ms:=@List.filter_congr
def Lc:=@PySem.mem_of_lookup
def Lb:=@List.replicate_succ
def Ij:=@List.length_pos_of_mem
def Ii:=@List.drop_eq_nil_of_le
def Ob:=@PySem.F.plain_min_loop
def La:=@PySem.Around.under_plainId
def Mr:=@PySem.wpAny_newObj_type
def Sx:=@PySem.sizeLine_eq
def Ih:=@List.getElem?_reverse
def Mq:=@List.lookup_cons
def QE:=@Nat.sub_self
def Ig:=@List.mem_of_mem_take
def QD:=@Int.mul_comm
def Ie:=@PySem.builtinLookup_eq_fast
def Tb:=@PySem.wpAny_mono
def Mp:=@PySem.wpAny_call_entry
def KZ:=@decide_eq_true_eq
def AJ:=@List.eq_nil_iff_forall_not_mem
def Mo:=@List.nil_append
def Mn:=@List.length_set
def Ub:=@List.length_nil
def QC:=@List.pairwise_singleton
def RW:=@List.getElem_of_mem
def UH:=@PySem.Heap.size_push
def VT:=@beq_iff_eq
def QB:=@PySem.F.slot_str_split
def QA:=@PySem.F.plainAttrs_str
def Qz:=@List.pairwise_lt_range
def Ta:=@Bool.and_eq_true
def Qy:=@Array.getElem?_eq_none
def Oa:=@PySem.plainId_quiet
def AI:=@Array.perm_iff_toList_perm
def Ic:=@Nat.lt_succ_of_lt
def Ib:=@List.ext_getElem?
def NZ:=@Nat.zero_add
def NY:=@Nat.succ.inj
def NX:=@Nat.le_of_lt
def KY:=@PySem.wpAny_passesOwn
def GN:=@beq_eq_false_iff_ne
def KW:=@Nat.mul_le_mul
def GL:=@List.map_eq_nil_iff
def AH:=@List.eq_of_mem_replicate
def Ia:=@PySem.wpAny_setState_of
def AG:=@List.getElem?_replicate
def Mm:=@List.map_map
def GK:=@List.getElem?_take
def GJ:=@Bool.false_eq_true
def GI:=@PySem.wpAny_setEntries_of
def KU:=@PySem.wpAny_seqItems
def HZ:=@PySem.wpAny_askSetting
def GH:=@List.getElem?_set
def GG:=@List.flatten_cons
def AF:=@PySem.wpAny_callSpecial?_slot
def NW:=@PySem.wpAny_of_eq
def xT:=@List.drop_append_of_le_length
def Ml:=@PySem.F.called_set
def HY:=@PySem.typeLookup_type
def Mj:=@Int.mul_one
def Mi:=@Int.le_refl
def GF:=@List.cons_append
def GD:=@List.any_eq_true
def KS:=@Int.pow_zero
def AE:=@PySem.Obj.isFreed_of_fields
def AD:=@List.filterMap_cons
def HX:=@PySem.wpAny_setField
def GC:=@Nat.min_eq_left
def GB:=@List.range_succ
def KR:=@PySem.codeAny_mono
def NV:=@PySem.call_meets
def AB:=@Nat.lt_of_le_of_lt
def AA:=@List.getElem?_drop
def Az:=@List.filter_filter
def KQ:=@Int.mul_add
def KP:=@PyProof.Rows.listUpdate_at
def xS:=@PySem.F.args_tuple_add_2
def xR:=@PySem.F.args_str_split_2
def xQ:=@Option.isSome_iff_exists
def xP:=@List.length_erase_of_mem
def HW:=@Int.zero_add
def HV:=@Int.le_trans
def HU:=@Int.le_of_lt
def HS:=@PySem.wpAny_newList
def NU:=@List.foldl_append
def NT:=@Int.mul_left_comm
def NS:=@Bool.eq_false_iff
def KO:=@PySem.F.entry_tuple_add
def KN:=@PySem.F.entry_str_split
def NR:=@decide_eq_decide
def Qx:=@PySem.W.mg_of
def KL:=@PySem.F.slot_tuple_add
def NQ:=@Nat.le_of_not_lt
def Qw:=@List.sum_cons
def Ay:=@List.mem_reverse
def Ax:=@List.length_tail
def xO:=@List.getElem?_eraseIdx
def xN:=@List.filter_eq_nil_iff
def xM:=@List.drop_of_length_le
def GA:=@List.cons.inj
def Gz:=@List.any_cons
def Gy:=@PySem.wpAny_tryCatch
def Aw:=@PySem.wpAny_pyIter_list
def Av:=@List.foldl_cons
def Au:=@List.find?_cons
def As:=@List.filter_nil
def xK:=@Nat.pow_le_pow_right
def xJ:=@List.mem_of_getLast?
def xI:=@List.mem_erase_of_ne
def xH:=@List.length_eraseIdx
def Gx:=@Int.zero_mul
def Gw:=@Int.pow_succ
def Ar:=@PySem.wpAny_isInstance
def Gv:=@PySem.wpAny_attempt
def xG:=@List.getElem?_range
def xF:=@List.filter_eq_self
def HR:=@Int.not_lt
def Aq:=@PySem.F.entry_min_loop
def xE:=@Array.toList_append
def HQ:=@PySem.wpAny_letGo
def xD:=@Nat.add_sub_cancel
def xC:=@List.map_singleton
def Ap:=@PySem.wpAny_updateSeq
def Ao:=@PySem.wpAny_execs_nil
def OO:=@if_true
def jm:=@PyProof.Rows.callWith_builtin1
def xB:=@List.reverse_cons
def xA:=@Array.toList_push
def xy:=@PyProof.Rows.F.plain_set_update_loop
def An:=@PySem.wpAny_fieldsOf
def HP:=@PySem.typeIs_str
def Am:=@PySem.isSubtype_type
def KJ:=@if_false
def xx:=@beq_self_eq_true
def jl:=@PySem.F.slot_dict_setdefault
def xw:=@Nat.succ_le_succ
def Al:=@Nat.sub_zero
def Ak:=@Nat.mul_comm
def xu:=@Nat.min_eq_right
def xt:=@List.not_mem_nil
def jk:=@List.dropLast_concat_getLast
def xr:=@Int.min_eq_right
def xq:=@Int.max_eq_right
def xp:=@beq_false_of_ne
def xo:=@PySem.SeqAt.EqAt.of_refs
def xn:=@Option.map_some
def KI:=@Nat.min_le_left
def KH:=@Nat.le_antisymm
def KG:=@List.of_mem_zip
def Gu:=@List.length_eraseIdx_of_lt
def KD:=@Int.min_eq_left
def KC:=@Int.max_eq_left
def KA:=@PySem.Code.quiet_builtin
def Kz:=@PySem.Calls.spliced_cons
def Ky:=@Bool.or_eq_true
def NP:=@PySem.wpAny_standAt
def jj:=@PySem.F.plain_extend_loop
def ji:=@List.getElem?_eq_none_iff
def Aj:=@Int.neg_mul
def jh:=@Int.eq_of_mul_eq_mul_left
def Ai:=@Int.add_mul
def Ah:=@PyProof.Rows.get?_update_seq
def jg:=@PySem.F.type_list_extend
def jf:=@PySem.F.slot_list_extend
def je:=@PySem.F.slot_dict_values
def xm:=@PySem.Obj.cls_mapFields
def xk:=@List.take_zero
def jd:=@List.mem_of_mem_eraseIdx
def jb:=@List.getElem?_take_of_lt
def xj:=@List.drop_zero
def ja:=@List.Pairwise.imp_of_mem
def xi:=@Int.natAbs_mul
def xh:=@PySem.Calls.spliced_nil
def i9:=@PySem.F.plainAttrs_dict
def i8:=@List.pairwise_mergeSort
def i7:=@Int.eq_ofNat_of_zero_le
def z9:=@PySem.wpAny_typeOf
def Gs:=@PySem.wpAny_rule
def Gr:=@PySem.wpAny_call
def xg:=@PySem.noFill_tuple_add
def z8:=@PySem.concat_meets
def i6:=@PySem.W.cellsFrom_some
def i5:=@PySem.F.type_str_split
def iZ:=@Option.map_eq_some_iff
def xf:=@List.take_nil
def iY:=@List.getElem?_set_self
def iX:=@PySem.F.type_str_join
def iW:=@PySem.F.slot_str_join
def iV:=@List.getElem?_toArray
def iS:=@List.Pairwise.sublist
/-! THE aZ iR,for ints,bools,texts,own classes,iQ and tuples (index,xc,in,append,pop ..),calls,loops. iP it whole ahead of xb own text;what xb proof aY not reach may be deleted. -/
namespace L2
open PySem PySem.Spec PyProof.Rows
abbrev Key:=Sum Int Str
def RV:Key->Value->Bool
 | .inl k,v=>Value.isInt k v
 | .inr x,v=>Value.isStrOf x v
def xa(w:World):Key->Int
 | .inl k=>hashInt k
 | .inr x=>hashStr w x
theorem ZM:∀ {k:Key} {v:Value},RV k v=true->(∃ i t,k=Sum.inl i/\v=Value.int i t)\/(∃ x t,k=Sum.inr x/\v=Value.str x t)
 | .inl i,v,h=>by obtain⟨t,e⟩:=Value.isInt_shape (k:=i) (v:=v) h;exact .inl ⟨i,t,rfl,e⟩
 | .inr x,v,h=>by obtain⟨t,e⟩:=Value.isStrOf_shape (x:=x) (v:=v) h;exact .inr ⟨x,t,rfl,e⟩
theorem aX(i:Int)(t:Tok):RV (.inl i) (.int i t)=true:=by simp[RV,Value.isInt]
theorem aW(x:Str)(t:Tok):RV (.inr x) (.str x t)=true:=by simp[RV,Value.isStrOf]
theorem w9(a b:Int):decide ((Sum.inl a:Key)=Sum.inl b)=(a == b):=by
 by_cases e:a=b
 .subst e;simp
 .have h:¬ (Sum.inl a:Key)=Sum.inl b:=λq=>e (Sum.inl.inj q);rw[YT h];exact(GN.mpr e).symm
theorem w4(a b:Str):decide ((Sum.inr a:Key)=Sum.inr b)=decide (a=b):=by
 by_cases e:a=b
 .subst e;simp
 .have h:¬ (Sum.inr a:Key)=Sum.inr b:=λq=>e (Sum.inr.inj q);rw[YT h,YT e]
theorem wZ(a:Int)(b:Str):decide ((Sum.inl a:Key)=Sum.inr b)=false:=YT (λq=>nomatch q)
theorem wY(a:Str)(b:Int):decide ((Sum.inr a:Key)=Sum.inl b)=false:=YT (λq=>nomatch q)
def RU(prog:Program)(w:World):PySem.KeyKind prog w Key where
 is:=RV
 hash:=xa w
 inj:=λv a b ha hb=>by
  rcases ZM ha with ⟨i,t,rfl,rfl⟩ | ⟨x,t,rfl,rfl⟩
  .rcases ZM hb with ⟨j,u,rfl,e⟩ | ⟨y,u,rfl,e⟩
   .injection e with e1 _;rw[e1]
   .exact nomatch e
  .rcases ZM hb with ⟨j,u,rfl,e⟩ | ⟨y,u,rfl,e⟩
   .exact nomatch e
   .injection e with e1 _;rw[e1]
 byValue:=λk v h=>by rcases ZM h with ⟨i,t,rfl,rfl⟩ | ⟨x,t,rfl,rfl⟩ <;> rfl
 pyHash:=λhv h=>by
  rcases ZM hv with ⟨i,t,rfl,rfl⟩ | ⟨x,t,rfl,rfl⟩
  .exact wpAny_pyHash_int h
  .exact wpAny_pyHash_str h
 eqBool:=λhu hv h=>by
  rcases ZM hu with ⟨i,t,rfl,rfl⟩ | ⟨x,t,rfl,rfl⟩
  .rcases ZM hv with ⟨j,u,rfl,rfl⟩ | ⟨y,u,rfl,rfl⟩
   .rw[w9]at h;exact wpAny_eqBool_int h
   .rw[wZ]at h;exact SeqAt.EqAt.int_str i t y u _ _ _ _ h
  .rcases ZM hv with ⟨j,u,rfl,rfl⟩ | ⟨y,u,rfl,rfl⟩
   .rw[wY]at h;exact SeqAt.EqAt.str_int x t j u _ _ _ _ h
   .rw[w4]at h;exact wpAny_eqBool_str h
 «strs»:=λk x t v h=>by
  rcases ZM h with ⟨i,u,rfl,e⟩ | ⟨y,u,rfl,e⟩
  .exact nomatch e
  .injection e with e1 _;subst e1;cases v <;> rfl
theorem aV(prog:Program)(w:World)(i:Int)(t:Tok):(RU prog w).is (.inl i) (.int i t)=true:=aX i t
theorem aT(prog:Program)(w:World)(x:Str)(t:Tok):(RU prog w).is (.inr x) (.str x t)=true:=aW x t
inductive V where
 | non | bl (b:Bool) | int (i:Int) | str (x:Str) | byt (b:Array UInt8) | flt (b:UInt64) | ref (a:Addr) | ty (n:String)
 deriving DecidableEq
def RelV:V->Value->Prop
 | .non,u=>u=Value.none
 | .bl b,u=>u=Value.bool b
 | .int i,u=>∃ t,u=Value.int i t
 | .str x,u=>∃ t,u=Value.str x t
 | .byt b,u=>∃ t,u=Value.bytes b t
 | .flt b,u=>∃ t,u=Value.float b t
 | .ref a,u=>u=Value.ref a
 | .ty n,u=>u=Value.type n
abbrev Vals:List V->List Value->Prop:=Paired RelV
theorem Vals.length{xs:List V}{us:Ag}(r:Vals xs us):xs.length=us.length:=Paired.length r
theorem Vals.get:∀ {xs:List V} {us:Ag} {i:Nat} {x:V},Vals xs us->xs[i]?=some x->∃ u,us[i]?=some u/\RelV x u
 | _,_,_,_,.nil,e=>by simp at e
 | _,_,0,_,.cons r _,e=>by simp at e;subst e;exact⟨_,rfl,r⟩
 | _,_,i+1,x,.cons _ t,e=>by obtain⟨u,h1,h2⟩:=Vals.get (i:=i) (x:=x) t (by simpa using e);exact⟨u,by simpa using h1,h2⟩
theorem Vals.set{x:V}{u:Value}(r:RelV x u):∀ {xs:List V} {us:Ag} (i:Nat),Vals xs us->Vals (xs.set i x) (us.set i u)
 | _,_,_,.nil=>.nil
 | _,_,0,.cons _ t=>.cons r t
 | _,_,i+1,.cons q t=>.cons q (Vals.set r i t)
theorem Vals.append:∀ {xs ys:List V} {us ws:Ag},Vals xs us->Vals ys ws->Vals (xs++ys) (us++ws)
 | _,_,_,_,.nil,s=>s
 | _,_,_,_,.cons r t,s=>.cons r (Vals.append t s)
theorem Vals.take:∀ {xs:List V} {us:Ag} (n:Nat),Vals xs us->Vals (xs.take n) (us.take n)
 | _,_,0,_=>.nil
 | _,_,_+1,.nil=>.nil
 | _,_,n+1,.cons r t=>.cons r (Vals.take n t)
theorem Vals.drop:∀ {xs:List V} {us:Ag} (n:Nat),Vals xs us->Vals (xs.drop n) (us.drop n)
 | _,_,0,r=>r
 | _,_,_+1,.nil=>.nil
 | _,_,n+1,.cons _ t=>Vals.drop n t
def RelO:Option V->Option Value->Prop
 | some v,some u=>RelV v u
 | none,none=>True
 | _,_=>False
def KV{κ:Type}:List (κ × V)->List (κ × Value)->Prop:=Paired λ(p:κ × V) (q:κ × Value)=>p.1=q.1/\RelV p.2 q.2
def kV:Key->V
 | .inl i=>.int i
 | .inr x=>.str x
inductive HO where
 | lst (xs:List V)
 | tup (xs:List V)
 | dK (kvs:List (Key × V)) | dT (kvs:List (List Key × V))
 | set (S:Int->Bool) (n:Nat)
 | ins (C dx:Addr) (fs:List (Str × V))
 | own (x:Addr)
 | xd (fs:List (Str × V))
 | met (f x:Addr)
 | rng (lo hi:Int)
 | frz (o:Obj) (u:HO)
 | tbl (ps:Array Value)
 | ext (φ:Heap->Prop)
abbrev Hp:=Addr->Option HO
def upd(H:Hp)(a:Addr)(o:HO):Hp:=λb=>if b=a then some o else H b
theorem XS{H:Hp}{a:Addr}{o:HO}:upd H a o a=some o:=by unfold upd;rw[if_pos rfl]
theorem Za{H:Hp}{a b:Addr}{o:HO}(h:b≠a):upd H a o b=H b:=by unfold upd;rw[if_neg h]
theorem VG{H:Hp}{a b:Addr}{o u:HO}(h:H a=some o)(h':H b=some u)(d:o≠u):a≠b:=by intro e;subst e;rw[h]at h';exact d (Yi h')
theorem Zb{H:Hp}{a b:Addr}{o:HO}(h:H a=some o)(h':H b=none):a≠b:=by intro e;subst e;rw[h]at h';cases h'
section
variable(P:Program)(w:World)
def ObjOk(H:Hp)(h:Heap)(a:Addr):HO->Prop
 | .lst xs=>xs.length<=sizeLine/\∃(XW:Ag) (n:Nat),Vals xs XW/\h.get? a=some { cls:=.type "list",data:=.seq XW.toArray n }
 | .tup xs=>xs.length<=sizeLine/\∃ XW:Ag,Vals xs XW/\IsTup h a XW.toArray
 | .dK kvs=>kvs.length<=sizeLine/\(a == sysModules)=false/\∃ vs,KV kvs vs/\h.DictOf (RU P w) a vs
 | .dT kvs=>kvs.length<=sizeLine/\(a == sysModules)=false/\∃ xs:List (List Key × Addr × Value),
   Paired (λ(p:List Key × V) (q:List Key × Addr × Value)=>p.1=q.1/\H q.2.1=some (.tup (p.1.map kV))/\RelV p.2 q.2.2) kvs xs /\
   ∃ o es ep,h.get? a=some o/\o.ExactDict/\o.data=.dict es ep/\es.toList=xs.map (entryOfKey (tupleKind (RU P w)))/\(xs.map (·.1)).Nodup
 | .set S n=>h.SetOf (intKind P w) a S n
 | .ins C dx fs=>H dx=some (.own a)/\fs.length<=1000/\dx≠a/\h.get? a=some (PySem.W.instObj C dx) /\
   ∃ mA,h.Ns1 dx mA/\(∀ f,RelO (fs.lookup f) (mA f))/\PySem.Within mA (fs.map (·.1))
 | .own _=>∃ o,h.get? a=some o
 | .xd fs=>∃ mA,h.Ns1 a mA/\∀ f,RelO (fs.lookup f) (mA f)
 | .rng lo hi=>∃ t u v,h.get? a=some { cls:=.type "range",data:=.fields #[.int lo t,.int hi u,.int 1 v] }
 | .frz o u=>h.get? a=some o/\ObjOk H h a u
 | .tbl ps=>h.get? a=some { cls:=.none,data:=.fields ps }
 | .met f x=>h.get? a=some (PySem.W.methodObj (.ref f) (.ref x))
 | .ext φ=>φ h/\(∃ o,h.get? a=some o)/\∀ h1 h2:Heap,φ h1->(∀ o,h1.get? a=some o->h2.get? a=some o)->φ h2
def HOk(H:Hp)(h:Heap):Prop:=∀ a o,H a=some o->ObjOk P w H h a o
end
section
variable{P:Program}{w:World}{H H':Hp}{h h':Heap}{a:Addr}{o:HO}
theorem ObjOk.lt(x:ObjOk P w H h a o):a<h.objs.size:=by
 cases o with
 | lst xs=>obtain⟨_,_,_,_,e⟩:=x;exact Yq e
 | tup xs=>obtain⟨_,_,_,p⟩:=x;exact p.lt
 | dK kvs=>obtain⟨_,_,_,_,o,_,_,e,_⟩:=x;exact Yq e
 | dT kvs=>obtain⟨_,_,_,_,o,_,_,e,_⟩:=x;exact Yq e
 | set S n=>obtain⟨o,_,_,_,e,_⟩:=x;exact Yq e
 | ins C dx fs=>obtain⟨_,_,_,e,_⟩:=x;exact Yq e
 | own y=>obtain⟨_,e⟩:=x;exact Yq e
 | xd fs=>obtain⟨_,⟨_,_,_,e,_⟩,_⟩:=x;exact Yq e
 | rng lo hi=>obtain⟨_,_,_,e⟩:=x;exact Yq e
 | frz ob u=>obtain⟨e,_⟩:=x;exact Yq e
 | tbl ps=>exact Yq (show h.get? a=some _ from x)
 | met f y=>exact Yq (show h.get? a=some _ from x)
 | ext φ=>obtain⟨_,⟨_,e⟩,_⟩:=x;exact Yq e
theorem Paired.mapP{α β:Type}{F G:α->β->Prop}:∀ {l₁:List α} {l₂:List β},Paired F l₁ l₂->(∀ a b,F a b->G a b)->Paired G l₁ l₂
 | _,_,.nil,_=>.nil
 | _,_,.cons r t,f=>.cons (f _ _ r) (Paired.mapP t f)
theorem ObjOk.stay(x:ObjOk P w H h a o)(k:∀ b u,(b=a\/H b=some (.own a))->h.get? b=some u->h'.get? b=some u)
  (ho:∀ b,H b=some (.own a)->H' b=some (.own a)) (ht:∀ b xs,H b=some (.tup xs)->H' b=some (.tup xs)):ObjOk P w H' h' a o:=by
 induction o with
 | lst xs=>obtain⟨z,XW,n,r,e⟩:=x;exact⟨z,XW,n,r,k _ _ (.inl rfl) e⟩
 | tup xs=>obtain⟨z,XW,r,ob,e,c⟩:=x;exact⟨z,XW,r,ob,k _ _ (.inl rfl) e,c⟩
 | dK kvs=>obtain⟨z,y,vs,r,ob,es,ep,e,c⟩:=x;exact⟨z,y,vs,r,ob,es,ep,k _ _ (.inl rfl) e,c⟩
 | dT kvs =>
  obtain⟨z,y,xs,r,ob,es,ep,e,c⟩:=x;exact⟨z,y,xs,Paired.mapP r λp q z=>⟨z.1,ht _ _ z.2.1,z.2.2⟩,ob,es,ep,k _ _ (.inl rfl) e,c⟩
 | set S n=>obtain⟨ob,es,ep,t,e,c⟩:=x;exact⟨ob,es,ep,t,k _ _ (.inl rfl) e,c⟩
 | ins C dx fs =>
  obtain⟨d,z,ne,e,mA,⟨od,es,ep,e2,c⟩,r⟩:=x;exact⟨ho _ d,z,ne,k _ _ (.inl rfl) e,mA,⟨od,es,ep,k _ _ (.inr d) e2,c⟩,r⟩
 | own y=>obtain⟨ob,e⟩:=x;exact⟨ob,k _ _ (.inl rfl) e⟩
 | xd fs=>obtain⟨mA,⟨od,es,ep,e,c⟩,r⟩:=x;exact⟨mA,⟨od,es,ep,k _ _ (.inl rfl) e,c⟩,r⟩
 | rng lo hi=>obtain⟨t,u,v,e⟩:=x;exact⟨t,u,v,k _ _ (.inl rfl) e⟩
 | frz ob u ih=>obtain⟨e,q⟩:=x;exact⟨k _ _ (.inl rfl) e,ih q⟩
 | tbl ps =>
  have e:h.get? a=some { cls:=.none,data:=.fields ps }:=x;show h'.get? a=some { cls:=.none,data:=.fields ps }
  exact k a _ (.inl rfl) e
 | met f y =>
  have e:h.get? a=some (PySem.W.methodObj (.ref f) (.ref y)):=x;show h'.get? a=some (PySem.W.methodObj (.ref f) (.ref y))
  exact k a _ (.inl rfl) e
 | ext φ=>obtain⟨p,⟨o,e⟩,st⟩:=x;exact⟨st _ _ p λo q=>k _ _ (.inl rfl) q,⟨o,k _ _ (.inl rfl) e⟩,st⟩
theorem HOk.lt(x:HOk P w H h)(e:H a=some o):a<h.objs.size:=(x a o e).lt
theorem HOk.fresh(x:HOk P w H h)(e:h.objs.size<=a):H a=none:=by
 cases q:H a with
 | none=>rfl
 | some u=>exact absurd (Yw (x.lt q) e) (RZ _)
theorem HOk.kept(x:HOk P w H h)(k:∀ b u,h.get? b=some u->h'.get? b=some u):HOk P w H h':=λa o e =>
 (x a o e).stay (λb u _ q=>k b u q) (λ_ q=>q) λ_ _ q=>q
theorem HOk.laid(x:HOk P w H h)(k:∀ b u,h.get? b=some u->h'.get? b=some u)(hp:h.objs.size<=a)(new:ObjOk P w (upd H a o) h' a o):HOk P w (upd H a o) h':=λb u e=>by
 have hn:=x.fresh hp;by_cases hb:b=a
 .subst hb;rw[XS]at e;cases e;exact new
 .rw[Za hb]at e;exact(x b u e).stay (λc v _ q=>k c v q) (λc q=>by rwa[Za (Zb q hn)]) λc xs q=>by rwa[Za (Zb q hn)]
end
def Rd(H:Hp)(a:Addr)(u:HO):Prop:=H a=some u\/∃ o,H a=some (.frz o u)
theorem Rd.ok{P:Program}{w:World}{H:Hp}{h:Heap}{a:Addr}{u:HO}(r:Rd H a u)(x:HOk P w H h):ObjOk P w H h a u:=by
 rcases r with r | ⟨o,r⟩
 .exact x a u r
 .obtain⟨_,q⟩:=x a _ r;exact q
def Gq:Option HO->Prop
 | some (.lst _)=>True
 | some (.dK _)=>True
 | some (.dT _)=>True
 | some (.set _ _)=>True
 | some (.ins _ _ _)=>True
 | some (.ext _)=>True
 | _=>False
section
variable{P:Program}{w:World}{H:Hp}{h h':Heap}{x e:Addr}{o':HO}
theorem HOk.write(ok:HOk P w H h)(mu:Gq (H x))(he:e=x\/H e=some (.own x))(k:∀ b u,b≠e->h.get? b=some u->h'.get? b=some u)(HN:∃ u,h'.get? e=some u)
  (new:ObjOk P w (upd H x o') h' x o'):HOk P w (upd H x o') h':=λb u q=>by
 have Gp:∀ c y,H c=some (.own y)->c≠x:=λc y r z=>by subst z;rwa[r]at mu
 have wX:∀ c xs,H c=some (.tup xs)->c≠x:=λc xs r z=>by subst z;rwa[r]at mu
 by_cases hb:b=x
 .subst hb;rw[XS]at q;cases q;exact new
 .rw[Za hb]at q;by_cases Kx:b=e
  .have q':H b=some (.own x):=by
    rcases he with z | z
    .exact absurd (Kx.trans z) hb
    .rw[Kx];exact z
   rw[q]at q';cases q';obtain⟨v,hv⟩:=HN;exact⟨v,by rwa[Kx]⟩
  .refine(ok b u q).stay (λc v hc r=>k c v ?_ r) (λc r=>by rwa[Za (Gp c b r)]) λc xs r=>by rwa[Za (wX c xs r)]
   rcases hc with rfl | hc
   .exact Kx
   .rintro rfl;rcases he with z | z
    .exact Gp c b hc z
    .rw[hc]at z;cases z;exact hb rfl
end
structure Un (fs ex:List Addr) (H H':Hp) (h h':Heap):Prop where
 keep:∀ b o,h.get? b=some o->H b=none->b∉fs->b∉ex->h'.get? b=some o
 slot:∀ b o,h.get? b=some o->H b=none->b∈fs->b∉ex->∃ sl,h'.get? b=some { o with slots:=sl }
 free:∀ b o,h.get? b=some o->H b=none->b∉ex->H' b=none
 there:∀ b o,h.get? b=some o->b∉ex->∃ o',h'.get? b=some o'
 tups:∀ b xs,H b=some (.tup xs)->H' b=some (.tup xs)
 frzs:∀ b o u,H b=some (.frz o u)->H' b=some (.frz o u)
 tbls:∀ b ps,H b=some (.tbl ps)->∃ more,H' b=some (.tbl (ps++more))
section
variable{fs ex:List Addr}{H H1:Hp}{h h1 h':Heap}{a x e:Addr}{o:HO}
theorem Un.any(u:Un fs ex H H1 h h1){b:Addr}{ob:Obj}(q:h.get? b=some ob)(n:H b=none)(hx:b∉ex):∃ sl,h1.get? b=some { ob with slots:=sl }:=by
 by_cases hb:b∈fs
 .exact u.slot b ob q n hb hx
 .exact⟨ob.slots,u.keep b ob q n hb hx⟩
theorem Un.kept(k:∀ b u,h.get? b=some u->h'.get? b=some u):Un fs ex H H h h' :=
 ⟨λb ob q _ _ _=>k b ob q,λb ob q _ _ _=>⟨ob.slots,k b ob q⟩,λ_ _ _ n _=>n,λb ob q _=>⟨ob,k b ob q⟩,λ_ _ q=>q,λ_ _ _ q=>q,λ_ ps q=>⟨#[],by rw[q];simp⟩⟩
theorem Un.refl:Un fs ex H H h h:=Un.kept λ_ _ q=>q
theorem Un.laid(k:∀ b u,h.get? b=some u->h'.get? b=some u)(hp:h.objs.size<=a)(hn:H a=none):Un fs ex H (upd H a o) h h' where
 keep:=λb u q _ _ _=>k b u q
 slot:=λb u q _ _ _=>⟨u.slots,k b u q⟩
 free:=λb u q n _=>by rwa[Za (Yz (Yw (Yq q) hp))]
 there:=λb u q _=>⟨u,k b u q⟩
 tups:=λb xs q=>by rwa[Za (Zb q hn)]
 frzs:=λb u xs q=>by rwa[Za (Zb q hn)]
 tbls:=λb ps q=>⟨#[],by rw[Za (Zb q hn),q];simp⟩
theorem Un.write(mu:Gq (H x))(he:e=x\/H e=some (.own x))(k:∀ b u,b≠e->h.get? b=some u->h'.get? b=some u)(HN:∃ u,h'.get? e=some u):Un fs ex H (upd H x o) h h':=by
 have hx:∀ b,H b=none->b≠x:=λb n z=>by subst z;rwa[n]at mu
 have hb:∀ b,H b=none->b≠e:=λb n z=>by
  subst z;rcases he with r | r
  .exact hx b n r
  .rw[n]at r;cases r
 have hm:∀ b u,H b=some u->¬ Gq (some u)->b≠x:=λb u q nm z=>by subst z;rw[q]at mu;exact nm mu
 refine⟨λb u q n _ _=>k b u (hb b n) q,λb u q n _ _=>⟨u.slots,k b u (hb b n) q⟩,λb u q n _=>by rw[Za (hx b n)];exact n,λb u q _=>?_,
  λb xs q=>by rw[Za (hm b _ q λz=>z)];exact q,λb u xs q=>by rw[Za (hm b _ q λz=>z)];exact q,λb ps q=>⟨#[],by rw[Za (hm b _ q λz=>z),q];simp⟩⟩
 by_cases Kx:b=e
 .subst Kx;exact HN
 .exact⟨u,k b u Kx q⟩
end
def z7(h:Heap)(H:Hp):List Addr:=(List.range h.objs.size).filter λa=>(H a).isSome
def Vc(h:Heap)(H:Hp):Heap:=PySem.W.hideAll h (z7 h H)
theorem aS(h:Heap)(H:Hp):(Vc h H).objs.size=h.objs.size:=PySem.W.hideAll_size _ _
theorem wW{h:Heap}{H:Hp}{b:Addr}{o:Obj}(e:h.get? b=some o)(n:H b=none):(Vc h H).get? b=some o :=
 PySem.W.hideAll_get _ e λhm=>by have q:(H b).isSome=true:=(Yd.mp hm).2;rw[n]at q;simp at q
theorem wV{h:Heap}{H:Hp}{b:Addr}{o:Obj}(e:(Vc h H).get? b=some o):h.get? b=some o/\H b=none:=by
 have e':h.get? b=some o:=PySem.W.of_hideAll (z7 h H) e;refine⟨e',?_⟩;cases q:H b with
 | none=>rfl
 | some x =>
  have hm:b∈z7 h H:=Yd.mpr ⟨YI.mpr (Yq e'),by simp[q]⟩;have z:(Vc h H).get? b=none:=PySem.W.hideAll_none (z7 h H) hm
  rw[z]at e;cases e
def Gn(g h:Heap)(L:Addr):List (Addr × Obj):=(List.range h.objs.size).filterMap λa=>if a=L\/(g.get? a).isSome=true then none else (h.get? a).map λo=>(a,o)
def rest(g h:Heap)(L d:Addr):List (Addr × Obj):=(Gn g h L).filter λp=>decide (p.1≠d)
structure Mod (K:Ad) (mg:Af) (base:Heap):Prop where
 kin:K.In base
 glob:base.Ns mainGlobals mg
 blt:∃ mb,base.Ns builtinsNs mb/\∀ x:Str,x≠"__name__"->mb x=bootBuiltins x
 nolimit:base.NoLimit
structure Cx where
 prog:Program
 w:World
 K:Ad
 mg:Af
 base:Heap
 A:Around
 N:List Str
 s₀:Shared
 H₀:Hp
 env:Env
 outer:List Env
 stack:List Env
 ex:List Addr
 fn:Str->Bool
 calm:Bool
 pn:List (Addr × Obj)
 xe:Ae
def Up(l:List Env):List Addr:=l.filterMap (·.frame)
abbrev Cx.fs(X:Cx):List Addr:=Up X.outer
def wU(sc:Scope)(x:Str):Prop:=sc.names.lookup x=some .local\/sc.names.lookup x=some .cell\/sc.names.lookup x=some .free
def Loc(sc:Scope)(x:Str):Prop:=sc.names.lookup x=some .local\/sc.names.lookup x=some .cell
def Look(env:Env)(h:Heap)(m:Af)(x:Str)(u:Value):Prop :=
 (env.kindOf x=some .local/\m x=some u)\/((env.kindOf x=some .cell\/env.kindOf x=some .free)/\∃ c,env.cells.lookup x=some c/\h.IsCell c (some u))
structure Cx.Ok (X:Cx):Prop where
 mod:Mod X.K X.mg X.base
 kind:X.env.scope.kind=.function
 glob:X.env.globals=mainGlobals
 blt:X.env.builtins=builtinsNs
 above:X.s₀.heap.objs.size<=X.env.locals
 inj:∀ x y c,X.env.cells.lookup x=some c->X.env.cells.lookup y=some c->x=y
 has:∀ x,(X.env.kindOf x=some .cell\/X.env.kindOf x=some .free)->∃ c,X.env.cells.lookup x=some c
 cab:∀ x c,X.fn x=true->X.env.cells.lookup x=some c->X.s₀.heap.objs.size<=c
 hd:X.calm=true->X.A.handled=none
 frames:X.A.frames=some X.stack
 stk:X.stack=X.outer\/(X.stack=X.env :: X.outer/\X.env.frame=some X.env.locals)
 exf:∀ b∈X.ex,b≠X.env.locals/\∀ x c,X.env.cells.lookup x=some c->c≠b
 bs:∀ b o,X.base.get? b=some o->X.s₀.heap.get? b=some o/\X.H₀ b=none
 bsz:X.base.objs.size<=X.s₀.heap.objs.size
 noex:∀ b o,X.base.get? b=some o->b∉X.ex
 exfs:∀ b∈X.ex,b∉X.fs
 funs:X.s₀.heap.FunFrames X.base X.outer
 frf:∀ b∈X.fs,X.H₀ b=none
structure Inv (X:Cx) (pins:List (Addr × Obj)) (σ:List (Option V)) (H:Hp) (s:Shared):Prop where
 ok:X.Ok
 os:s.os=X.s₀.os
 bare:AllBare s.gens
 base:Un X.fs X.ex X.H₀ H X.s₀.heap s.heap
 loc:∃ m,s.heap.Ns X.env.locals m/\∀(i:Nat) (x:Str) (v:V),X.N[i]?=some x->σ[i]?=some (some v)->wU X.env.scope x->∃ u,RelV v u/\Look X.env s.heap m x u
 cell:∀ x c,X.env.cells.lookup x=some c->∃ v,s.heap.IsCell c v
 free:H X.env.locals=none
 freeC:∀ x c,X.env.cells.lookup x=some c->H c=none
 pin:∀ p∈X.pn++pins,s.heap.get? p.1=some p.2/\H p.1=none/\p.1≠X.env.locals/\p.1∉X.fs/\∀ v,p.2.data≠.cell v
 hok:HOk X.prog X.w H s.heap
 len:σ.length=X.N.length
section
variable{X:Cx}{pins:List (Addr × Obj)}{σ:List (Option V)}{H H':Hp}{s:Shared}{h':Heap}
theorem Cx.Ok.nofr(ok:X.Ok){b:Addr}{o:Obj}(e:X.base.get? b=some o):b∉X.fs:=λhb=>by
 have:=(ok.funs.mem hb).1
 rw[e]at this;cases this
theorem Inv.bs(I:Inv X pins σ H s):∀ b o,X.base.get? b=some o->s.heap.get? b=some o/\H b=none:=λb o e =>
 ⟨I.base.keep b o (I.ok.bs b o e).1 (I.ok.bs b o e).2 (I.ok.nofr e) (I.ok.noex b o e),I.base.free b o (I.ok.bs b o e).1 (I.ok.bs b o e).2 (I.ok.noex b o e)⟩
theorem Inv.bk(I:Inv X pins σ H s):∀ b o,X.base.get? b=some o->s.heap.get? b=some o:=λb o e=>(I.bs b o e).1
theorem Inv.mod(I:Inv X pins σ H s):Mod X.K X.mg X.base:=I.ok.mod
theorem Inv.kIn(I:Inv X pins σ H s):X.K.In s.heap:=I.ok.mod.kin.keeps I.bk
theorem Inv.lt(I:Inv X pins σ H s):X.env.locals<s.heap.objs.size:=let ⟨_,hn,_⟩:=I.loc;hn.lt
theorem Inv.sz(I:Inv X pins σ H s):X.s₀.heap.objs.size<=s.heap.objs.size:=Yv I.ok.above (NX I.lt)
theorem Inv.nofs(I:Inv X pins σ H s){a:Addr}(h:s.heap.objs.size<=a):a∉X.fs:=λhb=>by obtain⟨_,o,ho,_⟩:=I.ok.funs.mem hb;exact absurd (Yw (Yq ho) (Yv I.sz h)) (RZ _)
theorem Inv.cne(I:Inv X pins σ H s):∀ x c,X.env.cells.lookup x=some c->c≠X.env.locals:=λx c e z=>by obtain⟨v,o,ho,hd⟩:=I.cell x c e;obtain⟨m,⟨o',es,ep,Vu,HM,_⟩,_⟩:=I.loc;rw[z,Vu]at ho;cases ho;rw[HM]at hd;cases hd
theorem Inv.funs(I:Inv X pins σ H s):s.heap.FunFrames X.base X.outer:=by
 have all:∀(l:List Env),(∀ b∈Up l,b∈X.fs)->X.s₀.heap.FunFrames X.base l->s.heap.FunFrames X.base l:=by
  intro l
  induction l with
  | nil=>intro _ _;trivial
  | cons env r ih =>
   intro hs hl;obtain⟨hk,⟨L,o,hf,hn,ho,hd⟩,hr⟩:=hl;have hL:L∈X.fs:=hs L (by unfold Up;rw[AD,hf];exact Yc)
   obtain⟨sl,e⟩:=I.base.slot L o ho (I.ok.frf L hL) hL λz=>I.ok.exfs L z hL;exact⟨hk,⟨L,_,hf,hn,e,hd⟩,ih (λb hb=>hs b (by unfold Up;rw[AD,hf];exact Yf _ hb)) hr⟩
 exact all X.outer (λ_ hb=>hb) I.ok.funs
theorem Inv.stack(I:Inv X pins σ H s):s.heap.FunFrames X.base X.stack:=by
 rcases I.ok.stk with e | ⟨e,hf⟩
 .rw[e];exact I.funs
 .rw[e];obtain⟨m,hn,_⟩:=I.loc;refine .cons (by rw[I.ok.kind];decide) hf hn ?_ I.funs;exact Heap.get?_none_of_le (Yv I.ok.bsz I.ok.above)
theorem Inv.stkSub(I:Inv X pins σ H s):∀ b∈Up X.stack,b∈X.env.locals :: X.fs:=λb hb=>by
 rcases I.ok.stk with e | ⟨e,hf⟩
 .rw[e]at hb;exact Yf _ hb
 .rw[e]at hb;unfold Up at hb;rwa[AD,hf]at hb
theorem Inv.stkFree(I:Inv X pins σ H s):∀ b∈Up X.stack,H b=none:=λb hb=>by
 rcases Yh.mp (I.stkSub b hb) with e | hb
 .rw[e];exact I.free
 .obtain⟨_,o,ho,_⟩:=I.ok.funs.mem hb;exact I.base.free b o ho (I.ok.frf b hb) λz=>I.ok.exfs b z hb
theorem Inv.step{g':Array GenState}{t':Nat}{d':Drawn}{ch:List Addr}(I:Inv X pins σ H s)
  (ON:∀ b∈ch,(b∈X.ex\/X.s₀.heap.objs.size<=b)/\b≠X.env.locals/\(∀ x c,X.env.cells.lookup x=some c->c≠b)/\∀ p∈X.pn++pins,p.1≠b)
  (keep:∀ b o,b≠X.env.locals->b∉X.fs->b∉ch->s.heap.get? b=some o->H b=none->h'.get? b=some o)
  (slot:∀ b o,b≠X.env.locals->b∈X.fs->b∉ch->s.heap.get? b=some o->H b=none->∃ sl,h'.get? b=some { o with slots:=sl }) (free:∀ b o,b∉ch->s.heap.get? b=some o->H b=none->H' b=none)
  (there:∀ b o,b∉ch->s.heap.get? b=some o->∃ o',h'.get? b=some o')
  (tups:∀ b xs,H b=some (.tup xs)->H' b=some (.tup xs)) (frzs:∀ b o u,H b=some (.frz o u)->H' b=some (.frz o u)) (tbls:∀ b ps,H b=some (.tbl ps)->∃ more,H' b=some (.tbl (ps++more)))
  (ns:∀ m,s.heap.Ns X.env.locals m->h'.Ns X.env.locals m) (hok:HOk X.prog X.w H' h') (hg:AllBare g') :
  Inv X pins σ H' { s with heap:=h',gens:=g',drawn:=d',toks:=t' }:=by
 have iO:∀ b o,X.s₀.heap.get? b=some o->b≠X.env.locals:=λb o e=>Yz (Yw (Yq e) I.ok.above);have z6:∀ b o,X.s₀.heap.get? b=some o->b∉X.ex->b∉ch:=λb o e hx hb=>by
  rcases(ON b hb).1 with z | z
  .exact hx z
  .exact absurd (Yw (Yq e) z) (RZ _)
 have cellK:∀ x c,X.env.cells.lookup x=some c->∀ v,s.heap.IsCell c v->h'.IsCell c v:=λx c e v ⟨o,ho,hd⟩=>by
  have Gm:c∉ch:=λz=>(ON c z).2.2.1 x c e rfl;by_cases hc:c∈X.fs
  .obtain⟨sl,q⟩:=slot c o (I.cne x c e) hc Gm ho (I.freeC x c e);exact⟨_,q,hd⟩
  .exact⟨o,keep c o (I.cne x c e) hc Gm ho (I.freeC x c e),hd⟩
 refine⟨I.ok,I.os,hg,⟨λb o e n hb hx=>?_,λb o e n hb hx=>?_,λb o e n hx=>?_,λb o e hx=>?_,λb xs e=>tups b xs (I.base.tups b xs e),λb o xs e=>frzs b o xs (I.base.frzs b o xs e),λb ps e=>?_⟩,?_,λx c e=>?_,?_,λx c e=>?_,λp hp=>?_,hok,I.len⟩
 .exact keep b o (iO b o e) hb (z6 b o e hx) (I.base.keep b o e n hb hx) (I.base.free b o e n hx)
 .obtain⟨sl,e1⟩:=I.base.slot b o e n hb hx;obtain⟨aR,e2⟩:=slot b _ (iO b o e) hb (z6 b o e hx) e1 (I.base.free b o e n hx);exact⟨aR,e2⟩
 .obtain⟨o',e1⟩:=I.base.there b o e hx;exact free b o' (z6 b o e hx) e1 (I.base.free b o e n hx)
 .obtain⟨o',e1⟩:=I.base.there b o e hx;exact there b o' (z6 b o e hx) e1
 .obtain⟨m1,e1⟩:=I.base.tbls b ps e;obtain⟨m2,e2⟩:=tbls b _ e1;exact⟨m1++m2,by rw[e2,Array.append_assoc]⟩
 .obtain⟨m,hn,hl⟩:=I.loc;refine⟨m,ns m hn,λi x v e1 e2 e3=>?_⟩;obtain⟨u,r,l⟩:=hl i x v e1 e2 e3;refine⟨u,r,?_⟩;rcases l with l | ⟨k,c,e,z⟩
  .exact .inl l
  .exact .inr ⟨k,c,e,cellK x c e _ z⟩
 .obtain⟨v,z⟩:=I.cell x c e;exact⟨v,cellK x c e v z⟩
 .obtain⟨m,⟨o,_,_,ho,_⟩,_⟩:=I.loc;exact free _ o (λz=>(ON _ z).2.1 rfl) ho I.free
 .obtain⟨v,o,ho,hd⟩:=I.cell x c e;exact free c o (λz=>(ON c z).2.2.1 x c e rfl) ho (I.freeC x c e)
 .obtain⟨e,n,ne,nf,d⟩:=I.pin p hp;have Gm:p.1∉ch:=λz=>(ON p.1 z).2.2.2 p hp rfl
  exact⟨keep p.1 p.2 ne nf Gm e n,free p.1 p.2 Gm e n,ne,nf,d⟩
theorem Inv.un{t':Nat}(I:Inv X pins σ H s)(u:Un X.fs [] H H' s.heap h')(hok:HOk X.prog X.w H' h'):Inv X pins σ H' { s with heap:=h',toks:=t' }:=by
 obtain⟨m,⟨o,es,ep,ho,r⟩,_⟩:=id I.loc;obtain⟨sl,hL⟩:=u.any ho I.free (by simp);exact I.step (g':=s.gens) (d':=s.drawn) (ch:=[]) (λ_ z=>nomatch z) (λb o _ hb _ e n=>u.keep b o e n hb (by simp)) (λb o _ hb _ e n=>u.slot b o e n hb (by simp)) (λb o _ e n=>u.free b o e n (by simp)) (λb o _ e=>u.there b o e (by simp)) u.tups u.frzs u.tbls (λm' hm=>by obtain⟨o',wR,wQ,Vu,r'⟩:=hm;rw[ho]at Vu;cases Vu;exact⟨_,wR,wQ,hL,r'⟩) hok I.bare
theorem Inv.call{g':Array GenState}{t':Nat}{d':Drawn}{ch:List Addr}(I:Inv X pins σ H s)(u:Un (Up X.stack) ch H H' s.heap h')(hok:HOk X.prog X.w H' h')(hg:AllBare g')
  (ON:∀ b∈ch,(b∈X.ex\/X.s₀.heap.objs.size<=b)/\b≠X.env.locals/\(∀ x c,X.env.cells.lookup x=some c->c≠b)/\∀ p∈X.pn++pins,p.1≠b) :
  Inv X pins σ H' { s with heap:=h',gens:=g',drawn:=d',toks:=t' }:=by
 obtain⟨m,⟨o,es,ep,ho,r⟩,_⟩:=id I.loc;obtain⟨sl,hL⟩:=u.any ho I.free λz=>(ON _ z).2.1 rfl;exact I.step (ch:=ch) ON (λb o hL hb hc e n=>u.keep b o e n (λz=>(Yh.mp (I.stkSub b z)).elim hL hb) hc) (λb o _ _ hc e n=>u.any e n hc) (λb o hc e n=>u.free b o e n hc) (λb o hc e=>u.there b o e hc) u.tups u.frzs u.tbls (λm' hm=>by obtain⟨o',wR,wQ,Vu,r'⟩:=hm;rw[ho]at Vu;cases Vu;exact⟨_,wR,wQ,hL,r'⟩) hok hg
theorem Inv.turned{t':Nat}{it:Addr}(I:Inv X pins σ H s)(k:∀ b o,b≠it->s.heap.get? b=some o->h'.get? b=some o)(hn:H it=none)(hL:it≠X.env.locals)
  (h1:it∈X.ex\/X.s₀.heap.objs.size<=it) (h2:∀ x c,X.env.cells.lookup x=some c->c≠it) (h3:∀ p∈X.pn++pins,p.1≠it):Inv X pins σ H { s with heap:=h',toks:=t' }:=by
 have iN:∀ b u,H b=some u->b≠it:=λb u e z=>by rw[z,hn]at e;cases e
 refine I.step (g':=s.gens) (d':=s.drawn) (ch:=[it]) (λb hb=>?_) (λb o _ _ hc e _=>k b o (λz=>hc (by simp[z])) e) (λb o _ _ hc e _=>⟨o.slots,k b o (λz=>hc (by simp[z])) e⟩) (λ_ _ _ _ n=>n)
  (λb o hc e=>⟨o,k b o (λz=>hc (by simp[z])) e⟩) (λ_ _ e=>e) (λ_ _ _ e=>e) (λb ps e=>⟨#[],by rw[e];simp⟩) (λm hm=>?_) (λb u e=>?_) I.bare
 .have e:b=it:=by simpa using hb
  subst e;exact⟨h1,hL,h2,h3⟩
 .obtain⟨o,es,ep,ho,r⟩:=hm;exact⟨o,es,ep,k _ o (XG hL) ho,r⟩
 .refine(I.hok b u e).stay (λc v hc q=>k c v ?_ q) (λ_ q=>q) λ_ _ q=>q;rcases hc with z | z
  .rw[z];exact iN b u e
  .exact iN c _ z
theorem Inv.tok(I:Inv X pins σ H s)(t:Nat):Inv X pins σ H { s with toks:=t }:=I.un (h':=s.heap) (t':=t) Un.refl I.hok
theorem Inv.kept{t':Nat}(I:Inv X pins σ H s)(k:∀ b u,s.heap.get? b=some u->h'.get? b=some u):Inv X pins σ H { s with heap:=h',toks:=t' }:=I.un (Un.kept k) (I.hok.kept k)
theorem Inv.laid{a:Addr}{o:HO}{t':Nat}(I:Inv X pins σ H s)(k:∀ b u,s.heap.get? b=some u->h'.get? b=some u)(hp:s.heap.objs.size<=a)(new:ObjOk X.prog X.w (upd H a o) h' a o) :
  Inv X pins σ (upd H a o) { s with heap:=h',toks:=t' }:=I.un (Un.laid k hp (I.hok.fresh hp)) (I.hok.laid k hp new)
theorem Inv.write{x e:Addr}{o:HO}{t':Nat}(I:Inv X pins σ H s)(mu:Gq (H x))(he:e=x\/H e=some (.own x))(k:∀ b u,b≠e->s.heap.get? b=some u->h'.get? b=some u)(HN:∃ u,h'.get? e=some u)
  (new:ObjOk X.prog X.w (upd H x o) h' x o):Inv X pins σ (upd H x o) { s with heap:=h',toks:=t' }:=I.un (Un.write mu he k HN) (I.hok.write mu he k HN new)
theorem Inv.weak{σ':List (Option V)}(I:Inv X pins σ H s)(hl:σ'.length=σ.length)(w:∀(i:Nat) v,σ'[i]?=some (some v)->σ[i]?=some (some v)):Inv X pins σ' H s :=
 ⟨I.ok,I.os,I.bare,I.base,let ⟨m,hn,Qu⟩:=I.loc;⟨m,hn,λi x v e1 e2 e3=>Qu i x v e1 (w i v e2) e3⟩,I.cell,I.free,I.freeC,I.pin,I.hok,hl.trans I.len⟩
theorem Inv.pins_of{pins':List (Addr × Obj)}(I:Inv X pins σ H s)(h:∀ p∈pins',s.heap.get? p.1=some p.2/\H p.1=none/\p.1≠X.env.locals/\p.1∉X.fs/\∀ v,p.2.data≠.cell v):Inv X pins' σ H s :=
 ⟨I.ok,I.os,I.bare,I.base,I.loc,I.cell,I.free,I.freeC,λp hp=>(Xr.mp hp).elim (λz=>I.pin p (Ye _ z)) (h p),I.hok,I.len⟩
theorem iM{N:List Str}(hN:N.Nodup){i j:Nat}{x:Str}(a:N[i]?=some x)(b:N[j]?=some x):i=j:=by obtain⟨h1,e1⟩:=Xm.mp a;obtain⟨h2,e2⟩:=Xm.mp b;exact(List.getElem_inj hN).mp (e1.trans e2.symm)
theorem aQ{M:Model}{A:Around}{E:Ae}{i:Nat}{x:Str}{v:V}{u:Value}{Q:Unit->Shared->Prop}(I:Inv X pins σ H s)(hN:X.N.Nodup)(hi:X.N[i]?=some x)(hx:Loc X.env.scope x)(r:RelV v u)
  (h:∀ s',Inv X pins (σ.set i (some v)) H s'->(∃ a,Heap.SameBut a s.heap s'.heap/\(a=X.env.locals\/X.env.cells.lookup x=some a))->Q () s') (hf:X.fn x=true\/X.env.scope.names.lookup x=some .local:=by first | exact .inl rfl | exact .inr rfl | assumption):wpAny M A (storeName X.env x u) Q E s:=by
 obtain⟨m,hn,hl⟩:=id I.loc;have wO:(X.env.scope.kind == .class || (X.env.scope.kind == .module && X.env.locals != X.env.globals))=false:=by rw[I.ok.kind];rfl
 have Gk:i<σ.length:=by rw[I.len];exact(Xm.mp hi).1
 have cne:=I.cne;have tracked:∀ {a:Addr} {h':Heap},(∃ o,s.heap.get? a=some o/\H a=none)->Heap.SameBut a s.heap h'->HOk X.prog X.w H h':=λ{a h'} ha hs b ob e=>by
  obtain⟨_,_,Mh⟩:=ha;refine(I.hok b ob e).stay (λc w' hc q=>(hs.2 c ?_).trans q) (λ_ q=>q) λ_ _ q=>q;rintro rfl;rcases hc with rfl | hc
  .rw[Mh]at e;cases e
  .rw[Mh]at hc;cases hc
 rcases hx with hk | hk
 .refine wpAny_storeName_local hk hn (λh' Qt hs=>?_) wO;obtain⟨oL,_,_,Kw,_⟩:=id hn;refine h _ ⟨I.ok,I.os,I.bare,⟨λb o e n hb hx=>?_,λb o e n hb hx=>?_,I.base.free,λb o e hx=>?_,I.base.tups,I.base.frzs,I.base.tbls⟩,⟨_,Qt,λj y v' e1 e2 e3=>?_⟩,λy c e=>?_,I.free,I.freeC,λp hp=>?_,tracked ⟨oL,Kw,I.free⟩ hs,by simpa using I.len⟩ ⟨_,hs,.inl rfl⟩
  .exact(hs.2 b (Yz (Yw (Yq e) I.ok.above))).trans (I.base.keep b o e n hb hx)
  .obtain⟨sl,e1⟩:=I.base.slot b o e n hb hx;exact⟨sl,(hs.2 b (Yz (Yw (Yq e) I.ok.above))).trans e1⟩
  .obtain⟨o',e1⟩:=I.base.there b o e hx;exact⟨o',(hs.2 b (Yz (Yw (Yq e) I.ok.above))).trans e1⟩
  .by_cases hj:j=i
   .subst hj;rw[hi]at e1;cases e1;rw[iY Gk]at e2;cases e2;exact⟨u,r,.inl ⟨hk,by simp⟩⟩
   .rw[List.getElem?_set_ne (XG hj)]at e2;obtain⟨u',r',q⟩:=hl j y v' e1 e2 e3;refine⟨u',r',?_⟩;rcases q with ⟨k,e⟩ | ⟨k,c,e,z⟩
    .refine .inl ⟨k,?_⟩
     have:y≠x:=λe=>hj (iM hN e1 (e ▸ hi))
     simp[this,e]
    .exact .inr ⟨k,c,e,z.sameBut hs (cne y c e)⟩
  .obtain⟨w',z⟩:=I.cell y c e;exact⟨w',z.sameBut hs (cne y c e)⟩
  .obtain⟨e,n,ne,nf,d⟩:=I.pin p hp;exact⟨(hs.2 p.1 ne).trans e,n,ne,nf,d⟩
 .have HL:X.fn x=true:=by
   rcases hf with z | z
   .exact z
   .rw[z]at hk;cases hk
  obtain⟨c,hc⟩:=I.ok.has x (.inl hk);obtain⟨w',z⟩:=I.cell x c hc;refine wpAny_storeName_cell I.ok.kind hk hc z (λh' Wz hs=>?_);obtain⟨oc,z5,wN⟩:=id z;refine h { s with heap:=h' } ⟨I.ok,I.os,I.bare,⟨λb o e n hb hx=>?_,λb o e n hb hx=>?_,I.base.free,λb o e hx=>?_,I.base.tups,I.base.frzs,I.base.tbls⟩,⟨m,hn.sameBut hs (XG (cne x c hc)),λj y v' e1 e2 e3=>?_⟩,λy c' e=>?_,I.free,I.freeC,λp hp=>?_,tracked ⟨oc,z5,I.freeC x c hc⟩ hs,by simpa using I.len⟩ ⟨c,hs,.inr hc⟩
  .exact(hs.2 b (Yz (Yw (Yq e) (I.ok.cab x c HL hc)))).trans (I.base.keep b o e n hb hx)
  .obtain⟨sl,e1⟩:=I.base.slot b o e n hb hx;exact⟨sl,(hs.2 b (Yz (Yw (Yq e) (I.ok.cab x c HL hc)))).trans e1⟩
  .obtain⟨o',e1⟩:=I.base.there b o e hx;exact⟨o',(hs.2 b (Yz (Yw (Yq e) (I.ok.cab x c HL hc)))).trans e1⟩
  .by_cases hj:j=i
   .subst hj;rw[hi]at e1;cases e1;rw[iY Gk]at e2;cases e2;exact⟨u,r,.inr ⟨.inl hk,c,hc,Wz⟩⟩
   .rw[List.getElem?_set_ne (XG hj)]at e2;obtain⟨u',r',q⟩:=hl j y v' e1 e2 e3;refine⟨u',r',?_⟩;rcases q with q | ⟨k,c',e,z'⟩
    .exact .inl q
    .refine .inr ⟨k,c',e,z'.sameBut hs ?_⟩;rintro rfl;exact hj (iM hN e1 (I.ok.inj _ _ _ e hc ▸ hi))
  .by_cases wM:c'=c
   .subst wM;exact⟨_,Wz⟩
   .obtain⟨w2,z2⟩:=I.cell y c' e;exact⟨w2,z2.sameBut hs wM⟩
  .obtain⟨e,n,ne,nf,d⟩:=I.pin p hp;refine⟨(hs.2 p.1 ?_).trans e,n,ne,nf,d⟩;intro q;rw[q,z5]at e;have q':oc=p.2:=Yi e
   exact d w' (by rwa[<- q'])
theorem wL{M:Model}{A:Around}{E:Ae}{i:Nat}{x:Str}{v:V}{u:Value}{Q:Unit->Shared->Prop}(I:Inv X pins σ H s)(hN:X.N.Nodup)(hi:X.N[i]?=some x)(hx:Loc X.env.scope x)(r:RelV v u)
  (h:∀ s',Inv X pins (σ.set i (some v)) H s'->Q () s') (hf:X.fn x=true\/X.env.scope.names.lookup x=some .local:=by first | exact .inl rfl | exact .inr rfl | assumption):wpAny M A (storeName X.env x u) Q E s :=
 aQ I hN hi hx r (λs' I' _=>h s' I') hf
theorem Inv.call'{s':Shared}{ch:List Addr}(I:Inv X pins σ H s)(ho:s'.os=s.os)(u:Un (Up X.stack) ch H H' s.heap s'.heap)(hok:HOk X.prog X.w H' s'.heap)(hg:AllBare s'.gens)
  (ON:∀ b∈ch,(b∈X.ex\/X.s₀.heap.objs.size<=b)/\b≠X.env.locals/\(∀ x c,X.env.cells.lookup x=some c->c≠b)/\∀ p∈X.pn++pins,p.1≠b):Inv X pins σ H' s':=by
 obtain⟨h',g',d',t',o'⟩:=s';have e:o'=s.os:=ho
 subst e;exact I.call (g':=g') (t':=t') (d':=d') u hok hg ON
end
abbrev XK:=Value->Option Addr->Hp->Prop
abbrev St:=List (Option V)
abbrev VK:=V->Hp->Prop
abbrev TE:=St->Hp->VK->Prop
abbrev TT:=St->Hp->(Bool->Hp->Prop)->Prop
abbrev TA:=St->Hp->(List V->Hp->Prop)->Prop
structure Ends where
 nx:St->Hp->Prop
 rt:VK
 bk:St->Hp->Prop:=λ_ _=>False
 ct:St->Hp->Prop:=λ_ _=>False
abbrev TS:=Ends->St->Hp->Prop
def EP(X:Cx)(pins:List (Addr × Obj))(σ:St)(Q:VK)(u:Value)(s':Shared):Prop:=∃ v H',Inv X pins σ H' s'/\RelV v u/\Q v H'
def TP(X:Cx)(pins:List (Addr × Obj))(σ:St)(Q:Bool->Hp->Prop)(b:Bool)(s':Shared):Prop:=∃ H',Inv X pins σ H' s'/\Q b H'
def AP(X:Cx)(pins:List (Addr × Obj))(σ:St)(Q:List V->Hp->Prop)(us:Ag)(s':Shared):Prop:=∃ vs H',Inv X pins σ H' s'/\Vals vs us/\Q vs H'
def SP(X:Cx)(pins:List (Addr × Obj))(D:Ends)(f:Flow)(s':Shared):Prop :=
 match f with
 | .next=>∃ σ' H',Inv X pins σ' H' s'/\D.nx σ' H'
 | .brk=>∃ σ' H',Inv X pins σ' H' s'/\D.bk σ' H'
 | .cont=>∃ σ' H',Inv X pins σ' H' s'/\D.ct σ' H'
 | .ret u=>∃ v σ' H',Inv X pins σ' H' s'/\RelV v u/\D.rt v H'
def PE(X:Cx)(e:Expr)(t:TE):Prop :=
 ∀(pins:List (Addr × Obj)) (s:Shared) (σ:St) (H:Hp) (Q:VK),Inv X pins σ H s->t σ H Q->wpAny (model X.prog X.w) X.A (eval e X.env) (EP X pins σ Q) X.xe s
def PT(X:Cx)(e:Expr)(t:TT):Prop :=
 ∀(pins:List (Addr × Obj)) (s:Shared) (σ:St) (H:Hp) (Q:Bool->Hp->Prop),Inv X pins σ H s->t σ H Q->wpAny (model X.prog X.w) X.A (isTrue e X.env (eval e X.env)) (TP X pins σ Q) X.xe s
def PW(X:Cx)(e:Expr)(t:TT):Prop :=
 ∀(whole:Sem Value) (pins:List (Addr × Obj)) (s:Shared) (σ:St) (H:Hp) (Q:Bool->Hp->Prop),Inv X pins σ H s->t σ H Q->wpAny (model X.prog X.w) X.A (isTrue e X.env whole) (TP X pins σ Q) X.xe s
theorem PW.pt{X:Cx}{e:Expr}{t:TT}(h:PW X e t):PT X e t:=h _
def PA(X:Cx)(es:List Expr)(t:TA):Prop :=
 ∀(pos:Pos) (pins:List (Addr × Obj)) (s:Shared) (σ:St) (H:Hp) (Q:List V->Hp->Prop),Inv X pins σ H s->t σ H Q->wpAny (model X.prog X.w) X.A (spliced (backTo pos (starEach es X.env))) (AP X pins σ Q) X.xe s
def PS(X:Cx)(st:Stmt)(t:TS):Prop :=
 ∀(pins:List (Addr × Obj)) (s:Shared) (σ:St) (H:Hp) (D:Ends),Inv X pins σ H s->t D σ H->wpAny (model X.prog X.w) X.A (exec st X.env) (SP X pins D) X.xe s
def PSs(X:Cx)(st:List Stmt)(t:TS):Prop :=
 ∀(pins:List (Addr × Obj)) (s:Shared) (σ:St) (H:Hp) (D:Ends),Inv X pins σ H s->t D σ H->wpAny (model X.prog X.w) X.A (execs st X.env) (SP X pins D) X.xe s
theorem thn{α:Type}{t:Sem α}{Q Q':α->Shared->Prop}{M:Model}{A:Around}{E:Ae}{s:Shared}(h:wpAny M A t Q E s)(hQ:∀ a s,Q a s->Q' a s):wpAny M A t Q' E s:=Tb h hQ λ_ _ x=>x
section
variable{X:Cx}
def Gj(i:Nat):TE:=λσ H Q=>∃ v,σ[i]?=some (some v)/\Q v H
def tC(v:V):TE:=λ_ H Q=>Q v H
theorem wK {i:Nat} {x:Str} {pos:Pos} (hN:X.N[i]?=some x) (hv:wU X.env.scope x) (hd:(x == ("__debug__":Str))=false:=by decide) (Tt:(x == ("__classdict__":Str))=false:=by decide):PE X (.Name x pos) (Gj i):=by
 intro pins s σ H Q I h;obtain⟨v,e,h⟩:=h;obtain⟨m,hn,hl⟩:=I.loc;obtain⟨u,r,l⟩:=hl i x v hN e hv;have fin:EP X pins σ Q u s:=⟨v,H,I,r,h⟩
 rcases l with ⟨hk,hm⟩ | ⟨hk,c,hc,Sw⟩
 .exact wpAny_Name (wpAny_loadName_local I.ok.kind hk hn hm fin) hd
 .rcases hk with hk | hk
  .exact wpAny_Name (wpAny_loadName_cell I.ok.kind hk hc Sw fin) hd
  .exact wpAny_Name (wpAny_loadName_free I.ok.kind hk hc Sw fin Tt) hd
theorem XN{i j pos}:PE X (.Constant (.int i) j pos) (tC (.int i)):=λ_ _ _ H _ I h=>wpAny_Constant_int ⟨.int i,H,I.tok _,⟨_,rfl⟩,h⟩
theorem VF{b j pos}:PE X (.Constant (.bool b) j pos) (tC (.bl b)):=λ_ _ _ H _ I h=>Constant_bool ⟨.bl b,H,I,rfl,h⟩
theorem NO{j pos}:PE X (.Constant .none j pos) (tC .non):=λ_ _ _ H _ I h=>Constant_none ⟨.non,H,I,rfl,h⟩
theorem Qs{x j pos}:PE X (.Constant (.str x) j pos) (tC (.str x)):=λ_ _ _ H _ I h=>Calls.Constant_str ⟨.str x,H,I.tok _,⟨_,rfl⟩,h⟩
def Gl(X:Cx)(x:Str):Prop:=X.env.kindOf x=some .globalImplicit
theorem wJ{E:Ae}{pins:List (Addr × Obj)}{s:Shared}{σ:St}{H:Hp}{x:Str}{u:Value}{pos:Pos}{Q:Ae}(I:Inv X pins σ H s)(hg:Gl X x)(hm:X.mg x=some u)(h:Q u s)
  (hd:(x == ("__debug__":Str))=false:=by decide):wpAny (model X.prog X.w) X.A (eval (.Name x pos) X.env) Q E s :=
 Calls.Name_function_global I.ok.kind hg (Calls.loadGlobal_global (by rw[I.ok.glob];exact I.mod.glob.keeps I.bk) hm h) hd
theorem QZ{E:Ae}{pins:List (Addr × Obj)}{s:Shared}{σ:St}{H:Hp}{x:Str}{u:Value}{pos:Pos}{Q:Ae}(I:Inv X pins σ H s)(hg:Gl X x)(hm:X.mg x=none)(hv:bootBuiltins x=some u)(h:Q u s)
  (hn:x≠"__name__":=by decide) (hd:(x == ("__debug__":Str))=false:=by decide):wpAny (model X.prog X.w) X.A (eval (.Name x pos) X.env) Q E s:=by obtain⟨mb,h1,h2⟩:=I.mod.blt;exact Calls.Name_function_global I.ok.kind hg (Calls.loadGlobal_builtin (by rw[I.ok.glob];exact I.mod.glob.keeps I.bk) hm (by rw[I.ok.blt];exact h1.keeps I.bk) ((h2 x hn).trans hv) h) hd
theorem z4 {x:Str} {v:V} {u:Value} {pos:Pos} (hg:Gl X x) (hm:X.mg x=some u) (r:RelV v u) (hd:(x == ("__debug__":Str))=false:=by decide):PE X (.Name x pos) (tC v) :=
 λ_ _ _ H _ I h=>wJ I hg hm ⟨v,H,I,r,h⟩ hd
variable{a b:Expr}{ta tb:TE}{pos:Pos}
def PC(X:Cx)(op:CmpOp)(a b:Expr)(t:TE):Prop :=
 ∀(pins:List (Addr × Obj)) (s:Shared) (σ:St) (H:Hp) (Q:VK),Inv X pins σ H s->t σ H Q ->
  wpAny (model X.prog X.w) X.A (eval a X.env) (λv s₁=>wpAny (model X.prog X.w) X.A (eval b X.env) (λu s₂=>wpAny (model X.prog X.w) X.A (compareOp op v u) (EP X pins σ Q) X.xe s₂) X.xe s₁) X.xe s
def tB(t:TE):TT:=λσ H Q=>t σ H λx H1=>∃ c,x=.bl c/\Q c H1
theorem Qr{e:Expr}{t:TE}(h:PE X e t)(he:∀ whole,isTrue e X.env whole=(do let v <- whole;standAt e.pos;holding [v] (truthy v)):=by intro _;rfl):PT X e (tB t):=by intro pins s σ H Q I hw;refine isTrue_plain (thn (h pins s σ H _ I hw) λv s1 ⟨x,H1,I1,r1,q1⟩=>?_) (he _);obtain⟨d,rfl,q⟩:=q1;cases r1;exact QF ⟨H1,I1,q⟩
variable{tA z3:TT}{rest:List Expr}
def wI(t u:TT):TT:=λσ H Q=>t σ H λc H1=>if c=true then u σ H1 Q else Q false H1
def aP(t u:TT):TT:=λσ H Q=>t σ H λc H1=>if c=true then Q true H1 else u σ H1 Q
def wH(t:TT):TT:=λσ H Q=>t σ H λc H1=>Q (!c) H1
theorem RT(ha:PT X a tA):PW X (.BoolOp .And [a] pos) tA:=by
 intro wh pins s σ H Q I h;refine isTrue_and (thn (ha pins s σ H Q I h) λc s1 e=>?_);cases c with
 | true=>exact isTrue_and_nil e
 | false=>exact e
theorem Qq(ha:PT X a tA):PW X (.BoolOp .Or [a] pos) tA:=by
 intro wh pins s σ H Q I h;refine isTrue_or (thn (ha pins s σ H Q I h) λc s1 e=>?_);cases c with
 | false=>exact isTrue_or_nil e
 | true=>exact e
theorem HK(ha:PT X a tA)(hb:PW X (.BoolOp .And (b :: rest) pos) z3):PW X (.BoolOp .And (a :: b :: rest) pos) (wI tA z3):=by
 intro wh pins s σ H Q I h;refine isTrue_and (thn (ha pins s σ H _ I h) λc s1 Xt=>?_);obtain⟨H1,I1,q1⟩:=Xt;cases c with
 | true=>exact hb wh pins s1 σ H1 Q I1 q1
 | false=>exact⟨H1,I1,q1⟩
theorem Sv(ha:PT X a tA)(hb:PW X (.BoolOp .Or (b :: rest) pos) z3):PW X (.BoolOp .Or (a :: b :: rest) pos) (aP tA z3):=by
 intro wh pins s σ H Q I h;refine isTrue_or (thn (ha pins s σ H _ I h) λc s1 Xt=>?_);obtain⟨H1,I1,q1⟩:=Xt;cases c with
 | true=>exact⟨H1,I1,q1⟩
 | false=>exact hb wh pins s1 σ H1 Q I1 q1
theorem OM(ha:PT X a tA):PT X (.UnaryOp .Not a pos) (wH tA):=by intro pins s σ H Q I h;exact isTrue_not (ha pins s σ H (λc H1=>Q (!c) H1) I h)
def wG(ta tb:TE):TE:=λσ H Q=>ta σ H λx H1=>∃ c,x=.bl c/\if c=true then tb σ H1 Q else Q (.bl false) H1
def wF(ta tb:TE):TE:=λσ H Q=>ta σ H λx H1=>∃ c,x=.bl c/\if c=true then Q (.bl true) H1 else tb σ H1 Q
def wD(ta:TE):TE:=λσ H Q=>ta σ H λx H1=>∃ c,x=.bl c/\Q (.bl (!c)) H1
theorem NN{op}{t:TE}(h:PE X a t):PE X (.BoolOp op [a] pos) t:=λpins s σ H Q I hw=>BoolOp_one (h pins s σ H Q I hw)
theorem NM(ha:PE X a ta)(hb:PE X (.BoolOp .And (b :: rest) pos) tb):PE X (.BoolOp .And (a :: b :: rest) pos) (wG ta tb):=by
 intro pins s σ H Q I h;refine BoolOp_and (thn (ha pins s σ H _ I h) λv s1 Xt=>?_);obtain⟨x,H1,I1,r1,q1⟩:=Xt;obtain⟨c,rfl,q1⟩:=q1;cases r1;refine QF ?_;cases c with
 | true=>exact hb pins s1 σ H1 Q I1 q1
 | false=>exact⟨.bl false,H1,I1,rfl,q1⟩
theorem wC(ha:PE X a ta)(hb:PE X (.BoolOp .Or (b :: rest) pos) tb):PE X (.BoolOp .Or (a :: b :: rest) pos) (wF ta tb):=by
 intro pins s σ H Q I h;refine BoolOp_or (thn (ha pins s σ H _ I h) λv s1 Xt=>?_);obtain⟨x,H1,I1,r1,q1⟩:=Xt;obtain⟨c,rfl,q1⟩:=q1;cases r1;refine QF ?_;cases c with
 | false=>exact hb pins s1 σ H1 Q I1 q1
 | true=>exact⟨.bl true,H1,I1,rfl,q1⟩
theorem wB(ha:PE X a ta):PE X (.UnaryOp .Not a pos) (wD ta):=by intro pins s σ H Q I h;refine UnaryOp_ (thn (ha pins s σ H _ I h) λv s1 Xt=>?_);obtain⟨x,H1,I1,r1,q1⟩:=Xt;obtain⟨c,rfl,q1⟩:=q1;cases r1;exact not_of (QF ⟨.bl (!c),H1,I1,rfl,q1⟩)
def aO(t:TT)(ta tb:TE):TE:=λσ H Q=>t σ H λc H1=>if c=true then ta σ H1 Q else tb σ H1 Q
theorem wz{c:Expr}(hc:PT X c tA)(ha:PE X a ta)(hb:PE X b tb):PE X (.IfExp c a b pos) (aO tA ta tb):=by
 intro pins s σ H Q I h;refine wpAny_IfExp (thn (hc pins s σ H _ I h) λd s1 Xt=>?_);obtain⟨H1,I1,q1⟩:=Xt;cases d with
 | true=>exact ha pins s1 σ H1 Q I1 q1
 | false=>exact hb pins s1 σ H1 Q I1 q1
end
def SqL(K:Ad)(H:Hp)(a:Addr)(xs:List V):Prop :=
 Rd H a (.lst xs) \/
  ∃(o:Obj) (XW:Array Value) (n:Nat),K.lookup a=some o/\o.cls=.type "list"/\o.dict=none/\o.data=.seq XW n/\XW.size<=sizeLine/\Vals xs XW.toList
def SqT(K:Ad)(H:Hp)(a:Addr)(xs:List V):Prop :=
 Rd H a (.tup xs) \/
  ∃(o:Obj) (XW:Array Value) (n:Nat),K.lookup a=some o/\o.cls=.type "tuple"/\o.data=.seq XW n/\XW.size<=sizeLine/\Vals xs XW.toList
def wy:Value->Option V
 | .none=>some .non
 | .bool b=>some (.bl b)
 | .int i _=>some (.int i)
 | .str x _=>some (.str x)
 | .bytes b _=>some (.byt b)
 | .float b _=>some (.flt b)
 | .ref a=>some (.ref a)
 | .type n=>some (.ty n)
 | _=>none
theorem RelV.abs{x:V}{u:Value}(r:RelV x u):wy u=some x:=by
 cases x with
 | non=>cases r;rfl
 | bl _=>cases r;rfl
 | int _=>obtain⟨t,rfl⟩:=r;rfl
 | str _=>obtain⟨t,rfl⟩:=r;rfl
 | byt _=>obtain⟨t,rfl⟩:=r;rfl
 | flt _=>obtain⟨t,rfl⟩:=r;rfl
 | ref _=>cases r;rfl
 | ty _=>cases r;rfl
theorem RelV.inj{x y:V}{u:Value}(r:RelV x u)(q:RelV y u):x=y:=Yi (r.abs.symm.trans q.abs)
theorem Vals.inj:∀ {xs ys:List V} {us:Ag},Vals xs us->Vals ys us->xs=ys
 | _,_,_,.nil,.nil=>rfl
 | _,_,_,.cons r t,.cons r' t'=>by rw[r.inj r',Vals.inj t t']
section
variable{X:Cx}{pins:List (Addr × Obj)}{σ:St}{H:Hp}{s:Shared}{a:Addr}{xs ys:List V}
theorem SqL.of{K:Ad}(h:H a=some (.lst xs)):SqL K H a xs:=.inl (.inl h)
theorem SqT.of{K:Ad}(h:H a=some (.tup xs)):SqT K H a xs:=.inl (.inl h)
theorem Inv.list(I:Inv X pins σ H s)(h:SqL X.K H a xs):∃ XW:Ag,Vals xs XW/\PlainL s.heap a XW.toArray/\xs.length<=sizeLine:=by
 rcases h with h | ⟨o,XW,n,hk,hc,hd,hs,hz,r⟩
 .obtain⟨z,XW,n,r,e⟩:=h.ok I.hok;exact⟨XW,r,⟨_,n,e,rfl,rfl,rfl⟩,z⟩
 .refine⟨XW.toList,r,⟨o,n,I.kIn a o hk,hc,hd,by simpa using hs⟩,?_⟩;have e:=r.length
  simp only [YB]at e;omega
theorem Inv.tuple(I:Inv X pins σ H s)(h:SqT X.K H a xs):∃ XW:Ag,Vals xs XW/\IsTup s.heap a XW.toArray/\xs.length<=sizeLine:=by
 rcases h with h | ⟨o,XW,n,hk,hc,hs,hz,r⟩
 .obtain⟨z,XW,r,p⟩:=h.ok I.hok;exact⟨XW,r,p,z⟩
 .refine⟨XW.toList,r,⟨o,I.kIn a o hk,hc,n,by simpa using hs⟩,?_⟩;have e:=r.length
  simp only [YB]at e;omega
theorem Inv.list_inj(I:Inv X pins σ H s)(h:SqL X.K H a xs)(h':SqL X.K H a ys):xs=ys:=by
 obtain⟨XW,r,⟨o,n,e,_,_,d⟩,_⟩:=I.list h;obtain⟨its',r',⟨o',n',e',_,_,d'⟩,_⟩:=I.list h';rw[e]at e';cases e';rw[d]at d';injection d' with d1 _
 have:XW=its':=by simpa using Xx Array.toList d1
 subst this;exact r.inj r'
theorem Inv.tuple_inj(I:Inv X pins σ H s)(h:SqT X.K H a xs)(h':SqT X.K H a ys):xs=ys:=by
 obtain⟨XW,r,⟨o,e,_,n,d⟩,_⟩:=I.tuple h;obtain⟨its',r',⟨o',e',_,n',d'⟩,_⟩:=I.tuple h';rw[e]at e';cases e';rw[d]at d';injection d' with d1 _
 have:XW=its':=by simpa using Xx Array.toList d1
 subst this;exact r.inj r'
end
abbrev Cx.wish(X:Cx)(E:Ae):Cx:={ X with xe:=E }
abbrev Cx.nox(X:Cx):Cx:=X.wish λ_ _=>False
theorem Cx.Ok.wish{X:Cx}(ok:X.Ok)(E:Ae):(X.wish E).Ok :=
 ⟨ok.mod,ok.kind,ok.glob,ok.blt,ok.above,ok.inj,ok.has,ok.cab,ok.hd,ok.frames,ok.stk,ok.exf,ok.bs,ok.bsz,ok.noex,ok.exfs,ok.funs,ok.frf⟩
theorem Cx.Ok.unwish{X:Cx}{E:Ae}(ok:(X.wish E).Ok):X.Ok :=
 ⟨ok.mod,ok.kind,ok.glob,ok.blt,ok.above,ok.inj,ok.has,ok.cab,ok.hd,ok.frames,ok.stk,ok.exf,ok.bs,ok.bsz,ok.noex,ok.exfs,ok.funs,ok.frf⟩
section
variable{X:Cx}{pins:List (Addr × Obj)}{σ:St}{H:Hp}{s:Shared}{E:Ae}
theorem Inv.wish(I:Inv X pins σ H s)(E:Ae):Inv (X.wish E) pins σ H s:=⟨I.ok.wish E,I.os,I.bare,I.base,I.loc,I.cell,I.free,I.freeC,I.pin,I.hok,I.len⟩
theorem Inv.unwish(I:Inv (X.wish E) pins σ H s):Inv X pins σ H s:=⟨I.ok.unwish,I.os,I.bare,I.base,I.loc,I.cell,I.free,I.freeC,I.pin,I.hok,I.len⟩
theorem SP.unwish{D:Ends}{f:Flow}{s':Shared}(h:SP (X.wish E) pins D f s'):SP X pins D f s':=by
 cases f with
 | next=>obtain⟨σ',H',I,q⟩:=h;exact⟨σ',H',I.unwish,q⟩
 | brk=>obtain⟨σ',H',I,q⟩:=h;exact⟨σ',H',I.unwish,q⟩
 | cont=>obtain⟨σ',H',I,q⟩:=h;exact⟨σ',H',I.unwish,q⟩
 | ret u=>obtain⟨v,σ',H',I,r,q⟩:=h;exact⟨v,σ',H',I.unwish,r,q⟩
theorem PSs.nox{st:List Stmt}{t:TS}(h:PSs X.nox st t):PSs X st t:=λpins s σ H D I hw =>
 Tb (h pins s σ H D (I.wish _) hw) (λ_ _ q=>q.unwish) λ_ _ z=>False.elim z
end
section
variable{X:Cx}{st:Stmt}{rest:List Stmt}{t u:TS}{e:Expr}{te:TE}{pos:Pos}
def wx:TS:=λD σ H=>D.nx σ H
def UG(t u:TS):TS:=λD σ H=>t { D with nx:=u D } σ H
theorem Zn:PSs X [] wx:=λ_ _ σ H _ I h=>Ao ⟨σ,H,I,h⟩
theorem XO(h1:PS X st t)(h2:PSs X rest u):PSs X (st :: rest) (UG t u):=by
 intro pins s σ H D I h;refine wpAny_execs_cons (thn (h1 pins s σ H { D with nx:=u D } I h) λf s1 q=>?_);cases f with
 | next =>
  obtain⟨σ',H',I',q⟩:=q;exact h2 pins s1 σ' H' D I' q
 | ret v=>exact q
 | brk=>exact q
 | cont=>exact q
theorem XI(h1:PS X st t):PSs X [st] t:=by
 intro pins s σ H D I h;refine wpAny_execs_cons (thn (h1 pins s σ H D I h) λf s1 q=>?_);cases f with
 | next=>exact Ao q
 | ret v=>exact q
 | brk=>exact q
 | cont=>exact q
theorem Inv.quiet{pins:List (Addr × Obj)}{σ:St}{H:Hp}{s:Shared}(I:Inv X pins σ H s):interactive X.env=false:=by simp[interactive,I.ok.kind]
def Mg(te:TE):TS:=λD σ H=>te σ H λ_ H1=>D.nx σ H1
theorem ZN(he:PE X e te)(hs:swapsWith e none pos.line X.env=pure false:=by rfl):PS X (.Expr e pos) (Mg te):=by intro pins s σ H D I h;exact wpAny_Expr_any (thn (he pins s σ H _ I h) λv s1 ⟨x,H1,I1,r1,q1⟩=>⟨σ,H1,I1,q1⟩) I.quiet hs
def Gi(te:TE):TS:=λD σ H=>te σ H D.rt
theorem Zj(he:PE X e te):PS X (.Return (some e) pos) (Gi te):=by intro pins s σ H D I h;exact wpAny_Return_some (thn (he pins s σ H _ I h) λv s1 ⟨x,H1,I1,r1,q1⟩=>⟨x,σ,H1,I1,r1,q1⟩)
def wu(c:TT)(t u:TS):TS:=λD σ H=>c σ H λb H1=>if b=true then t D σ H1 else u D σ H1
theorem WD{c:Expr}{a b:List Stmt}{tc:TT}(hc:PT X c tc)(ha:PSs X a t)(hb:PSs X b u):PS X (.If c a b pos) (wu tc t u):=by
 intro pins s σ H D I h;refine wpAny_If (thn (hc pins s σ H _ I h) λd s1 Xt=>?_);obtain⟨H1,I1,q1⟩:=Xt;cases d with
 | true=>exact ha pins s1 σ H1 D I1 q1
 | false=>exact hb pins s1 σ H1 D I1 q1
def wq:TS:=λ_ _ _=>False
theorem ZV:PS X st wq:=λ_ _ _ _ _ _ h=>h.elim
end
abbrev TG:=V->St->Hp->(St->Hp->Prop)->Prop
abbrev Qp:=List V->St->Hp->(St->Hp->Prop)->Prop
def PG(X:Cx)(target:Expr)(t:TG):Prop :=
 ∀(pins:List (Addr × Obj)) (s:Shared) (σ:St) (H:Hp) (v:V) (u:Value) (Q:St->Hp->Prop),Inv X pins σ H s->RelV v u->t v σ H Q ->
  wpAny (model X.prog X.w) X.A (assign target X.env u) (λ_ s'=>∃ σ' H',Inv X pins σ' H' s'/\Q σ' H') X.xe s
def Kv(X:Cx)(ts:List Expr)(t:Qp):Prop :=
 ∀(pins:List (Addr × Obj)) (s:Shared) (σ:St) (H:Hp) (vs:List V) (us:Ag) (Q:St->Hp->Prop),Inv X pins σ H s->Vals vs us->t vs σ H Q ->
  wpAny (model X.prog X.w) X.A (assignInOrder ((assignEach ts X.env).map (·.2)) us) (λ_ s'=>∃ σ' H',Inv X pins σ' H' s'/\Q σ' H') X.xe s
abbrev Qo:=V->V->V->Hp->(Hp->Prop)->Prop
def Ku(X:Cx)(t:Qo):Prop :=
 ∀(pins:List (Addr × Obj)) (s:Shared) (σ:St) (H:Hp) (o i v:V) (ov iv u:Value) (Q:Hp->Prop),Inv X pins σ H s->RelV o ov->RelV i iv->RelV v u->t o i v H Q ->
  wpAny (model X.prog X.w) X.A (setItem ov iv u) (λ_ s'=>∃ H',Inv X pins σ H' s'/\Q H') X.xe s
abbrev zZ:=V->V->Hp->VK->Prop
def wm(X:Cx)(op:Operator)(t:zZ):Prop :=
 ∀(pins:List (Addr × Obj)) (s:Shared) (σ:St) (H:Hp) (x y:V) (v u:Value) (Q:VK),Inv X pins σ H s->RelV x v->RelV y u->t x y H Q ->
  wpAny (model X.prog X.w) X.A (inplaceOp op v u) (EP X pins σ Q) X.xe s
section
variable{X:Cx}{pos:Pos}
def SY(i:Nat):TG:=λv σ H Q=>Q (σ.set i (some v)) H
theorem Zc{i:Nat}{x:Str}(hN:X.N.Nodup)(hi:X.N[i]?=some x)(hx:Loc X.env.scope x)(hf:X.fn x=true\/X.env.scope.names.lookup x=some .local:=by first | exact .inl rfl | exact .inr rfl | assumption):PG X (.Name x pos) (SY i):=by intro pins s σ H v u Q I r h;exact wpAny_assign_Name (wL I hN hi hx r (λs' I'=>⟨_,H,I',h⟩) hf)
def Gh:Qp:=λvs σ H Q=>vs=[]/\Q σ H
def Gg(t:TG)(u:Qp):Qp:=λvs σ H Q=>∃ v r,vs=v :: r/\t v σ H λσ' H'=>u r σ' H' Q
theorem QY:Kv X [] Gh:=by intro pins s σ H vs us Q I r h;obtain⟨e,h⟩:=h;subst e;cases r;exact assignInOrder_nil ⟨σ,H,I,h⟩
theorem Zv{e:Expr}{es:List Expr}{t:TG}{u:Qp}(h1:PG X e t)(h2:Kv X es u)
  (hs:(assignEach (e :: es) X.env).map (·.2)=assign e X.env :: (assignEach es X.env).map (·.2):=by rfl):Kv X (e :: es) (Gg t u):=by
 intro pins s σ H vs us Q I r h;obtain⟨v,vr,e1,h⟩:=h;subst e1;cases r with
 | cons r rr =>
  rw[hs];refine assignInOrder_cons (thn (h1 pins s σ H _ _ _ I r h) λ_ s1 Xt=>?_);obtain⟨σ1,H1,I1,q1⟩:=Xt;exact h2 pins s1 σ1 H1 _ _ Q I1 rr q1
def Kt(K:Ad)(n:Nat)(t:Qp):TG:=λv σ H Q=>∃ a xs,v=.ref a/\SqT K H a xs/\xs.length=n/\t xs σ H Q
theorem wj{es:List Expr}{k:Nat}{t:Qp}{n:Nat}(hc:X.calm=true)(h:Kv X es t)
  (hn:(assignEach es X.env).length=n:=by rfl) (VE:(assignEach es X.env).findIdx? (·.1)=none:=by rfl):PG X (.Tuple es k pos) (Kt X.K n t):=by
 intro pins s σ H v u Q I r hw;obtain⟨a,xs,e1,hq,hl,hw⟩:=hw;subst e1;cases r;obtain⟨XW,rv,ht,hz⟩:=I.tuple hq;refine assign_Tuple_tuple (I.ok.hd hc) ht (by simp[hn,<- hl,rv.length]) VE λh' hx=>?_;have I1:Inv X pins σ H { s with heap:=h' }:=I.kept (t':=s.toks) λb o e=>hx b o (Yz (Yq e)) e
 exact h pins _ σ H xs _ Q I1 (by simpa using rv) hw
def wg(to ti:TE)(t:Qo):TG:=λv σ H Q=>to σ H λo H1=>ti σ H1 λi H2=>t o i v H2 λH3=>Q σ H3
theorem Mf{o i:Expr}{to ti:TE}{t:Qo}(ho:PE X o to)(hi:PE X i ti)(hs:Ku X t)
  (ha:∀ v,assign (.Subscript o i pos) X.env v=(do
   let ov <- holding [v] (eval o X.env)
   let iv <- holding [v,ov] (eval i X.env)
   standAt pos
   holding [v,ov,iv] (setItem ov iv v)
   release [v,ov,iv] []):=by intro _;rfl):PG X (.Subscript o i pos) (wg to ti t):=by intro pins s σ H v u Q I r h;rw[ha];refine XT (Td (thn (ho pins s σ H _ I h) λov s1 Xt=>?_));obtain⟨x,H1,I1,r1,q1⟩:=Xt;refine XT (Td (thn (hi pins s1 σ H1 _ I1 q1) λiv s2 Xt=>?_));obtain⟨y,H2,I2,r2,q2⟩:=Xt;refine XT (NP (XT (Td (thn (hs pins s2 σ H2 x y v ov iv u _ I2 r1 r2 r q2) λ_ s3 Xt=>?_))));obtain⟨H3,I3,q3⟩:=Xt;exact wpAny_release ⟨σ,H3,I3,q3⟩
def Ks(te:TE)(g:TG):TS:=λD σ H=>te σ H λx H1=>g x σ H1 D.nx
theorem Gf{tg e:Expr}{te:TE}{g:TG}(he:PE X e te)(hg:PG X tg g)(hs:swapsWithSole [tg] e pos.line X.env=pure false:=by rfl)(hw:swappedStores [tg] e X.env=pure none:=by rfl)
  (h1:(assignEach [tg] X.env).map (·.2)=[assign tg X.env]:=by rfl):PS X (.Assign [tg] e pos) (Ks te g):=by intro pins s σ H D I h;refine wpAny_Assign_stores (thn (he pins s σ H _ I h) λv s1 Xt=>?_) hs hw;obtain⟨x,H1,I1,r1,q1⟩:=Xt;rw[h1];exact thn (hg pins s1 σ H1 x v _ I1 r1 q1) λ_ s2 q=>q
theorem Zi{i:Nat}{x:Str}{e:Expr}{te:TE}{pos':Pos}(hN:X.N.Nodup)(hi:X.N[i]?=some x)(hx:Loc X.env.scope x)(he:PE X e te)(hs:swapsWith e (some (.Name x pos')) pos.line X.env=pure false:=by rfl)(hf:X.fn x=true\/X.env.scope.names.lookup x=some .local:=by first | exact .inl rfl | exact .inr rfl | assumption) :
  PS X (.Assign [.Name x pos'] e pos) (Ks te (SY i)):=by intro pins s σ H D I h;refine wpAny_Assign_Name (thn (he pins s σ H _ I h) λv s1 Xt=>?_) hs;obtain⟨y,H1,I1,r1,q1⟩:=Xt;exact wL I1 hN hi hx r1 (λs2 I2=>⟨_,H1,I2,q1⟩) hf
def we(to ti te:TE)(tget:V->V->Hp->VK->Prop)(zY:zZ)(tset:Qo):TS:=λD σ H=>to σ H λo H1=>ti σ H1 λi H2=>tget o i H2 λx H3=>te σ H3 λy H4=>zY x y H4 λz H5=>tset o i z H5 λH6=>D.nx σ H6
def Ge(X:Cx)(t:V->V->Hp->VK->Prop):Prop :=
 ∀(pins:List (Addr × Obj)) (s:Shared) (σ:St) (H:Hp) (o i:V) (ov iv:Value) (Q:VK),Inv X pins σ H s->RelV o ov->RelV i iv->t o i H Q ->
  wpAny (model X.prog X.w) X.A (getItem ov iv) (EP X pins σ Q) X.xe s
theorem zX{o i e:Expr}{to ti te:TE}{tget:V->V->Hp->VK->Prop}{zY:zZ}{tset:Qo}{op:Operator}{SX:Pos}(ho:PE X o to)(hi:PE X i ti)(hg:Ge X tget)(he:PE X e te)(hp:wm X op zY)(hs:Ku X tset)
  (ha:∀ ov iv new,augStore i ov iv new=(do holding [new,ov,iv] (setItem ov iv new);release [new,ov,iv] [];pure .next):=by intros;rfl):PS X (.AugAssign (.Subscript o i SX) op e pos) (we to ti te tget zY tset):=by intro pins s σ H D I h;refine wpAny_AugAssign_SubscriptAny (thn (ho pins s σ H _ I h) λov s1 Xt=>?_) ha;obtain⟨x1,H1,I1,r1,q1⟩:=Xt;refine thn (hi pins s1 σ H1 _ I1 q1) λiv s2 Xt=>?_;obtain⟨x2,H2,I2,r2,q2⟩:=Xt;refine thn (hg pins s2 σ H2 x1 x2 ov iv _ I2 r1 r2 q2) λold s3 Xt=>?_;obtain⟨x3,H3,I3,r3,q3⟩:=Xt;refine thn (he pins s3 σ H3 _ I3 q3) λv s4 Xt=>?_;obtain⟨x4,H4,I4,r4,q4⟩:=Xt;refine thn (hp pins s4 σ H4 x3 x4 old v _ I4 r3 r4 q4) λnew s5 Xt=>?_;obtain⟨x5,H5,I5,r5,q5⟩:=Xt;exact thn (hs pins s5 σ H5 x1 x2 x5 ov iv new _ I5 r1 r2 r5 q5) λ_ s6 ⟨H6,I6,q6⟩=>⟨σ,H6,I6,q6⟩
def iL(f:Int->Int->Int):zZ:=λx y H Q=>∃ i j,x=.int i/\y=.int j/\Q (.int (f i j)) H
theorem Gd:wm X .Add (iL λi j=>i+j):=by intro pins s σ H x y v u Q I r1 r2 h;obtain⟨i,j,e1,e2,q⟩:=h;subst e1;subst e2;obtain⟨t,rfl⟩:=r1;obtain⟨t',rfl⟩:=r2;exact iadd_int ⟨.int _,H,I.tok _,⟨_,rfl⟩,q⟩
theorem Gb:wm X .Sub (iL λi j=>i - j):=by intro pins s σ H x y v u Q I r1 r2 h;obtain⟨i,j,e1,e2,q⟩:=h;subst e1;subst e2;obtain⟨t,rfl⟩:=r1;obtain⟨t',rfl⟩:=r2;exact isub_int ⟨.int _,H,I.tok _,⟨_,rfl⟩,q⟩
def wd(c:TT)(tb:TS):TS:=λD σ H=>∃ W:Nat->St->Hp->Prop,(∃ m,W m σ H)/\∀ m σ H,W m σ H ->
 c σ H λb H1=>if b=true then ∃ N:St->Hp->Prop,(∀ σ' H',N σ' H'->∃ m',m'<m/\W m' σ' H')/\tb { D with nx:=N,ct:=N,bk:=D.nx } σ H1 else D.nx σ H1
theorem Ga{c:Expr}{body:List Stmt}{tc:TT}{tb:TS}(hp:PassesOwn (model X.prog X.w) X.A X.env X.xe)(hc:PT X c tc)(hb:PSs X body tb):PS X (.While c body [] pos) (wd tc tb):=by
 intro pins s σ H D I h;obtain⟨W,⟨m0,w0⟩,turn⟩:=h;refine wpAny_While (codeAny_whileLoop (λn s'=>∃ σ' H',Inv X pins σ' H' s'/\W n σ' H') ?_ m0 ⟨σ,H,I,w0⟩);rintro n s1 ⟨σ1,H1,I1,w1⟩;refine KY hp (thn (hc pins s1 σ1 H1 _ I1 (turn n σ1 H1 w1)) λb s2 Xt=>?_);obtain⟨H2,I2,q2⟩:=Xt;cases b with
 | true =>
  obtain⟨N,hN,q2⟩:=q2;rw[if_pos rfl];refine KY hp (thn (hb pins s2 σ1 H2 _ I2 q2) λf s3 q3=>?_);cases f with
  | next =>
   obtain⟨σ3,H3,I3,n3⟩:=q3;obtain⟨m',hm,w3⟩:=hN σ3 H3 n3;exact⟨m',hm,σ3,H3,I3,w3⟩
  | cont =>
   obtain⟨σ3,H3,I3,n3⟩:=q3;obtain⟨m',hm,w3⟩:=hN σ3 H3 n3;exact⟨m',hm,σ3,H3,I3,w3⟩
  | brk=>exact q3
  | ret v=>exact q3
 | false =>
  rw[if_neg Yy];exact Ao ⟨σ1,H2,I2,q2⟩
end
structure It where
 go:Nat->Hp->Prop
 yld:Nat->Hp->V->Hp->Prop
 stop:Nat->Hp->Prop
def FpOk(X:Cx)(pins:List (Addr × Obj))(H:Hp)(b:Addr):Prop :=
 H b=none/\b≠X.env.locals/\b∉X.fs/\(b∈X.ex\/X.s₀.heap.objs.size<=b)/\(∀ x c,X.env.cells.lookup x=some c->c≠b)/\∀ p∈X.pn++pins,p.1≠b
theorem Inv.fpOk{X:Cx}{pins:List (Addr × Obj)}{σ:St}{H H':Hp}{s:Shared}{b:Addr}(I:Inv X pins σ H s)(hb:s.heap.objs.size<=b)(hn:H' b=none):FpOk X pins H' b:=by
 refine⟨hn,RY (Yw I.lt hb),I.nofs hb,.inr (Yv I.sz hb),λx c e z=>?_,λp hp z=>?_⟩
 .obtain⟨v,q⟩:=I.cell x c e;exact absurd (Yw q.lt (by rwa[z])) (RZ _)
 .exact absurd (Yw (Yq (I.pin p hp).1) (by rwa[z])) (RZ _)
structure Turn (P:Program) (w:World) (K:Ad) (tg:Expr) (J:It) (fp:List Addr) (it:Addr) (tn:Nat->Heap->Prop):Prop where
 mem:it∈fp
 obj:∀ i h,tn i h->∀ b∈fp,∃ o,h.get? b=some o/\∀ v,o.data≠.cell v
 keep:∀ i h h',tn i h->(∀ b∈fp,∀ o,h.get? b=some o->h'.get? b=some o)->tn i h'
 item:∀(X:Cx),X.prog=P->X.w=w->X.K=K->X.calm=true->∀(i:Nat) (pins:List (Addr × Obj)) (s:Shared) (σ:St) (H:Hp) (E:Ae),Inv X pins σ H s->(∀ b∈fp,FpOk X pins H b)->tn i s.heap->J.go i H ->
  wpAny (model P w) X.A (pyNext (.ref it)) (λr s1=>∃ u,r=some u /\
   wpAny (model P w) X.A (letOwnedTupleGo tg (.ref it) u) (λ_ s2=>∃ x H',Inv X pins σ H' s2/\RelV x u/\J.yld i H x H'/\tn (i+1) s2.heap/\∀ b∈fp,H' b=none) E s1) E s
 done:∀(X:Cx),X.prog=P->X.w=w->X.K=K->X.calm=true->∀(i:Nat) (pins:List (Addr × Obj)) (s:Shared) (σ:St) (H:Hp) (E:Ae),Inv X pins σ H s->(∀ b∈fp,FpOk X pins H b)->tn i s.heap->J.stop i H ->
  wpAny (model P w) X.A (pyNext (.ref it)) (λr s1=>r=none/\Inv X pins σ H s1) E s
 self:∀(A:Around) (i:Nat) (s:Shared) (Q:Ae) (E:Ae),tn i s.heap->Q (.ref it) s->wpAny (model P w) A (pyIter (.ref it)) Q E s
abbrev TI:=St->Hp->(It->Hp->Prop)->Prop
def iK(X:Cx)(pins:List (Addr × Obj))(σ:St)(tg:Expr)(R:It->Hp->Prop)(wc:Value)(s2:Shared):Prop :=
 ∃(it:Addr) (fp:List Addr) (tn:Nat->Heap->Prop) (J:It) (H':Hp),wc=.ref it/\Inv X pins σ H' s2/\Turn X.prog X.w X.K tg J fp it tn/\tn 0 s2.heap/\(∀ b∈fp,FpOk X pins H' b)/\R J H'
def PI(X:Cx)(tg iter:Expr)(wi:TI):Prop :=
 ∀(pins:List (Addr × Obj)) (s:Shared) (σ:St) (H:Hp) (R:It->Hp->Prop),Inv X pins σ H s->wi σ H R ->
  wpAny (model X.prog X.w) X.A (eval iter X.env) (λv s1=>wpAny (model X.prog X.w) X.A (pyIter v) (iK X pins σ tg R) X.xe s1) X.xe s
theorem NL{M:Model}{A:Around}{E:Ae}{s:Shared}{tg:Expr}{it:Addr}{u:Value}{o:Obj}{n:String}{vs:Array Value}{Q:Unit->Shared->Prop}(ho:s.heap.get? it=some o)(hc:o.cls=.type n)(hd:o.data=.fields vs)
  (hn:["enumerate","zip","dict_itemiterator","dict_reverseitemiterator","odict_iterator","itertools.zip_longest","itertools.pairwise"].contains n=false) (hQ:Q () s):wpAny M A (letOwnedTupleGo tg (.ref it) u) Q E s:=by
 unfold letOwnedTupleGo;cases tg <;> first
  | exact Ym hQ
  | (cases u <;> first
    | exact Ym hQ
    | (refine XT (wpAny_load ho ?_)
       rw[hc,hd];show wpAny M A (if (["enumerate","zip","dict_itemiterator","dict_reverseitemiterator","odict_iterator","itertools.zip_longest","itertools.pairwise"].contains n && vs[0]? == some (rawInt _))=true then _ else _) Q E s
       rw[if_neg (by intro h;rw[hn,Bool.false_and]at h;cases h)];exact Ym hQ))
def Qn(K:Ad)(a:Addr):It :=
 ⟨λi H=>∃ xs x,SqL K H a xs/\xs[i]?=some x,λi H x H'=>H'=H/\∀ xs,SqL K H a xs->xs[i]?=some x,λi H=>∃ xs,SqL K H a xs/\xs.length<=i⟩
def Qm(K:Ad)(a:Addr):It :=
 ⟨λi H=>∃ xs x,SqT K H a xs/\xs[i]?=some x,λi H x H'=>H'=H/\∀ xs,SqT K H a xs->xs[i]?=some x,λi H=>∃ xs,SqT K H a xs/\xs.length<=i⟩
def Me(lo:Int)(n:Nat):It:=⟨λi _=>i<n,λi H x H'=>H'=H/\x=.int (lo+i),λi _=>n<=i⟩
theorem iJ{P:Program}{w:World}{K:Ad}{tg:Expr}(a it:Addr):Turn P w K tg (Qn K a) [it] it (λi h=>h.IsListIter it a i) where
 mem:=by simp
 obj:=λi h st b hb=>by
  have e:b=it:=by simpa using hb
  subst e;obtain⟨o,e,c,d⟩:=st;exact⟨o,e,λv z=>by rw[d]at z;cases z⟩
 keep:=λi h h' st k=>st.at λo e=>k it (by simp) o e
 item:=by
  intro X hP hw hK hc i pins s σ H E I hf st hg;subst hP hw hK;obtain⟨xs,x,hq,hx⟩:=hg;obtain⟨XW,rv,p,hz⟩:=I.list hq;obtain⟨u,hu,ru⟩:=rv.get hx;obtain⟨f0,f1,f2,f3,f4,f5⟩:=hf it (by simp);refine wpAny_pyNext_list_item st p.isList (x:=u) (by simpa using hu) λh' UE sb=>?_;have I1:Inv X pins σ H { s with heap:=h' }:=I.turned (t':=s.toks) (λb o hb e=>(sb.2 b hb).trans e) f0 f1 f3 f4 f5
  obtain⟨o,e,c,d⟩:=id UE;exact⟨u,rfl,NL (s:={ s with heap:=h' }) e c d (by decide) ⟨x,H,I1,ru,⟨rfl,λys hy=>by rwa[I.list_inj hy hq]⟩,UE,λb hb=>(hf b hb).1⟩⟩
 done:=by
  intro X hP hw hK hc i pins s σ H E I hf st hg;subst hP hw hK;obtain⟨xs,hq,hx⟩:=hg;obtain⟨XW,rv,p,hz⟩:=I.list hq;obtain⟨f0,f1,f2,f3,f4,f5⟩:=hf it (by simp);have hl:=rv.length
  exact wpAny_pyNext_list_end (I.ok.hd hc) st p.isList (by simp;omega) λh' eb=>⟨rfl,I.turned (t':=s.toks) (λb o hb e=>eb b o hb e) f0 f1 f3 f4 f5⟩
 self:=λ_ _ _ _ _ st h=>wpAny_pyIter_listiter st h
theorem iI{P:Program}{w:World}{K:Ad}{tg:Expr}(a it:Addr):Turn P w K tg (Qm K a) [it] it (λi h=>h.IsTupleIter it a i) where
 mem:=by simp
 obj:=λi h st b hb=>by
  have e:b=it:=by simpa using hb
  subst e;obtain⟨o,e,c,d⟩:=st;exact⟨o,e,λv z=>by rw[d]at z;cases z⟩
 keep:=λi h h' st k=>st.at λo e=>k it (by simp) o e
 item:=by
  intro X hP hw hK hc i pins s σ H E I hf st hg;subst hP hw hK;obtain⟨xs,x,hq,hx⟩:=hg;obtain⟨XW,rv,p,hz⟩:=I.tuple hq;obtain⟨u,hu,ru⟩:=rv.get hx;obtain⟨f0,f1,f2,f3,f4,f5⟩:=hf it (by simp);refine wpAny_pyNext_tuple_item st (show s.heap.IsTuple a XW.toArray from p) (x:=u) (by simpa using hu) λh' UE sb=>?_;have I1:Inv X pins σ H { s with heap:=h' }:=I.turned (t':=s.toks) (λb o hb e=>(sb.2 b hb).trans e) f0 f1 f3 f4 f5
  obtain⟨o,e,c,d⟩:=id UE;exact⟨u,rfl,NL (s:={ s with heap:=h' }) e c d (by decide) ⟨x,H,I1,ru,⟨rfl,λys hy=>by rwa[I.tuple_inj hy hq]⟩,UE,λb hb=>(hf b hb).1⟩⟩
 done:=by
  intro X hP hw hK hc i pins s σ H E I hf st hg;subst hP hw hK;obtain⟨xs,hq,hx⟩:=hg;obtain⟨XW,rv,p,hz⟩:=I.tuple hq;obtain⟨f0,f1,f2,f3,f4,f5⟩:=hf it (by simp);have hl:=rv.length
  exact wpAny_pyNext_tuple_end (I.ok.hd hc) st (show s.heap.IsTuple a XW.toArray from p) (by simp;omega) λh' eb=>⟨rfl,I.turned (t':=s.toks) (λb o hb e=>eb b o hb e) f0 f1 f3 f4 f5⟩
 self:=λ_ _ _ _ _ st h=>wpAny_pyIter_tupleiter st h
theorem aN{P:Program}{w:World}{K:Ad}{tg:Expr}(it:Addr)(lo:Int)(n:Nat):Turn P w K tg (Me lo n) [it] it (λi h=>IsRangeIter h it (lo+(i:Nat) * 1) ((n:Int) - (i:Nat)) 1) where
 mem:=by simp
 obj:=λi h st b hb=>by
  have e:b=it:=by simpa using hb
  subst e;exact⟨_,st,λv z=>by have z':Data.fields _=Data.cell v:=z;cases z'⟩
 keep:=λi h h' st k=>k it (by simp) _ st
 item:=by
  intro X hP hw hK hc i pins s σ H E I hf st hg;subst hP hw hK;obtain⟨f0,f1,f2,f3,f4,f5⟩:=hf it (by simp);have W:=Walks.range (prog:=X.prog) (w:=X.w) (I.ok.hd hc) it lo 1 n
  refine W.item i s _ _ hg st λv h' tk hv UE kk=>?_;obtain⟨t,rfl⟩:=hv;have I1:Inv X pins σ H { s with heap:=h',toks:=tk }:=I.turned (λb o hb e=>kk b o (by simpa using hb) e) f0 f1 f3 f4 f5
  refine⟨_,rfl,NL (s:={ s with heap:=h',toks:=tk }) (n:="range_iterator") UE rfl rfl (by decide) ⟨.int (lo+i),H,I1,⟨t,?_⟩,⟨rfl,rfl⟩,UE,λb hb=>(hf b hb).1⟩⟩;rw[Mj]
 done:=by intro X hP hw hK hc i pins s σ H E I hf st hg;subst hP hw hK;obtain⟨f0,f1,f2,f3,f4,f5⟩:=hf it (by simp);exact wpAny_pyNext_range_end (I.ok.hd hc) st (by have:n<=i:=hg;omega) λh' eb=>⟨rfl,I.turned (t':=s.toks) (λb o hb e=>eb b o hb e) f0 f1 f3 f4 f5⟩
 self:=λ_ _ _ _ _ st h=>wpAny_pyIter_rangeiter st h
section
variable{X:Cx}{tg:Expr}
def FZ(K:Ad)(tl:TE):TI:=λσ H R=>tl σ H λx H1=>∃ a,x=.ref a/\(∃ xs,SqL K H1 a xs)/\R (Qn K a) H1
def FY(K:Ad)(tl:TE):TI:=λσ H R=>tl σ H λx H1=>∃ a,x=.ref a/\(∃ xs,SqT K H1 a xs)/\R (Qm K a) H1
theorem FW{l:Expr}{tl:TE}(hl:PE X l tl):PI X tg l (FZ X.K tl):=by
 intro pins s σ H R I h;refine thn (hl pins s σ H _ I h) λv s1 Xt=>?_;obtain⟨x,H1,I1,r1,q1⟩:=Xt;obtain⟨a,e,⟨xs,hq⟩,q⟩:=q1;subst e;cases r1;obtain⟨XW,rv,p,hz⟩:=I1.list hq;refine Aw p.isList ?_;refine⟨s1.heap.objs.size,[s1.heap.objs.size],_,_,H1,rfl,I1.kept (t':=s1.toks) λb o e=>WZ _ e,iJ a _,⟨_,Yl _ rfl,rfl,rfl⟩,λb hb=>?_,q⟩;have e:b=s1.heap.objs.size:=by simpa using hb
 subst e;exact I1.fpOk (XJ _) (I1.hok.fresh (XJ _))
theorem wa{l:Expr}{tl:TE}(hl:PE X l tl):PI X tg l (FY X.K tl):=by
 intro pins s σ H R I h;refine thn (hl pins s σ H _ I h) λv s1 Xt=>?_;obtain⟨x,H1,I1,r1,q1⟩:=Xt;obtain⟨a,e,⟨xs,hq⟩,q⟩:=q1;subst e;cases r1;obtain⟨XW,rv,p,hz⟩:=I1.tuple hq;refine wpAny_pyIter_tuple (show s1.heap.IsTuple a XW.toArray from p) ?_;refine⟨s1.heap.objs.size,[s1.heap.objs.size],_,_,H1,rfl,I1.kept (t':=s1.toks) λb o e=>WZ _ e,iI a _,⟨_,Yl _ rfl,rfl,rfl⟩,λb hb=>?_,q⟩;have e:b=s1.heap.objs.size:=by simpa using hb
 subst e;exact I1.fpOk (XJ _) (I1.hok.fresh (XJ _))
theorem iH{pins:List (Addr × Obj)}{σ:St}{H:Hp}{s:Shared}{R:It->Hp->Prop}{E:Ae}{lo hi:Int}{t u v:Tok}{tk:Nat}(I:Inv X pins σ H s)(h1:-(2 ^ 62)<=lo)(h2:lo<2 ^ 62)(h3:-(2 ^ 62)<=hi)(h4:hi<2 ^ 62)
  (q:R (Me lo (hi - lo).toNat) H):wpAny (model X.prog X.w) X.A (pyIter (.ref s.heap.objs.size)) (iK X pins σ tg R) E { s with heap:=s.heap.push { cls:=.type "range",data:=.fields #[.int lo t,.int hi u,.int 1 v] },toks:=tk }:=by
 refine wpAny_pyIter_range (IsRange.new ..) (small_one h1 h2 h3 h4) ?_;have I1:Inv X pins σ H { s with heap:=s.heap.push { cls:=.type "range",data:=.fields #[.int lo t,.int hi u,.int 1 v] },toks:=tk }:=I.kept λb o e=>WZ _ e
 refine⟨(s.heap.push { cls:=.type "range",data:=.fields #[.int lo t,.int hi u,.int 1 v] }).objs.size,[(s.heap.push { cls:=.type "range",data:=.fields #[.int lo t,.int hi u,.int 1 v] }).objs.size],_,_,H,rfl,
  I1.kept (t':=tk) λb o e=>WZ _ e,aN _ lo (hi - lo).toNat,?_,λb hb=>?_,q⟩
 .have e1:lo+((0:Nat):Int) * 1=lo:=by simp
  have e2:(((hi - lo).toNat:Nat):Int) - ((0:Nat):Int)=Builtin.Range.rangeSize lo hi 1:=by rw[rangeSize_one];split <;> omega
  show IsRangeIter _ _ (lo+((0:Nat):Int) * 1) ((((hi - lo).toNat:Nat):Int) - ((0:Nat):Int)) 1;rw[e1,e2];exact Yl _ rfl
 .have e:b=(s.heap.push { cls:=.type "range",data:=.fields #[.int lo t,.int hi u,.int 1 v] }).objs.size:=by simpa using hb
  subst e;exact I1.fpOk (XJ _) (I1.hok.fresh (XJ _))
def v9(ta:TA):TI:=λσ H R=>ta σ H λvs H1=>∃ j:Int,vs=[.int j]/\-(2 ^ 62)<=j/\j<2 ^ 62/\R (Me 0 j.toNat) H1
def v8(ta:TA):TI:=λσ H R=>ta σ H λvs H1=>∃ i j:Int,vs=[.int i,.int j]/\(-(2 ^ 62)<=i/\i<2 ^ 62/\-(2 ^ 62)<=j/\j<2 ^ 62)/\R (Me i (j - i).toNat) H1
theorem UD {a:Expr} {ta:TA} {p pos:Pos} (hg:Gl X "range") (hm:X.mg "range"=none) (ha:PA X [a] ta) (hs:starEach [a] X.env=[(false,eval a X.env)]:=by rfl):PI X tg (.Call (.Name "range" p) [a] [] pos) (v9 ta):=by
 intro pins s σ H R I h;refine Call_ (QZ I hg hm boot_range (Uc (thn (ha pos pins s σ H _ I h) λus s1 Xt=>?_) hs rfl));obtain⟨vs,H1,I1,r1,q1⟩:=Xt;obtain⟨j,e,q1,q2,q⟩:=q1;subst e;cases r1 with
 | cons r rr =>
  cases rr;obtain⟨t,rfl⟩:=r;exact call_range_1 (iH I1 (by omega) (by omega) q1 q2 (by simpa using q))
theorem vZ {a b:Expr} {ta:TA} {p pos:Pos} (hg:Gl X "range") (hm:X.mg "range"=none) (ha:PA X [a,b] ta) (hs:starEach [a,b] X.env=[(false,eval a X.env),(false,eval b X.env)]:=by rfl) (Ts:starEach [b] X.env=[(false,eval b X.env)]:=by rfl) :
  PI X tg (.Call (.Name "range" p) [a,b] [] pos) (v8 ta):=by
 intro pins s σ H R I h;refine Call_ (QZ I hg hm boot_range (Uc (thn (ha pos pins s σ H _ I h) λus s1 ⟨vs,H1,I1,r1,q1⟩=>?_) (by rw[hs,Ts]) (by rw[Ts];rfl)));obtain⟨i,j,e,⟨q1,q2,q3,q4⟩,q⟩:=q1;subst e;cases r1 with
 | cons r rr =>
  cases rr with
  | cons r' rr =>
   cases rr;obtain⟨t,rfl⟩:=r;obtain⟨t',rfl⟩:=r';exact call_range_2 (iH I1 q1 q2 q3 q4 q)
def vY(wi:TI)(g:TG)(tb:TS):TS:=λD σ H=>wi σ H λJ H1=>∃ W:Nat->Nat->St->Hp->Prop,(∃ m,W 0 m σ H1)/\∀ i m σ H,W i m σ H ->
 (J.stop i H/\D.nx σ H)\/(J.go i H/\∃ N:St->Hp->Prop,(∀ σ' H',N σ' H'->∃ m',m'<m/\W (i+1) m' σ' H')/\∀ x H',J.yld i H x H'->g x σ H' λσ2 H2=>tb { D with nx:=N,ct:=N,bk:=D.nx } σ2 H2)
def NK(fp:List Addr)(h:Heap):List (Addr × Obj):=fp.filterMap λb=>(h.get? b).map λo=>(b,o)
theorem NJ{fp:List Addr}{h:Heap}{b:Addr}{o:Obj}(hb:b∈fp)(e:h.get? b=some o):(b,o)∈NK fp h:=List.mem_filterMap.mpr ⟨b,hb,by rw[e];rfl⟩
theorem iG{fp:List Addr}{h:Heap}{p:Addr × Obj}(hp:p∈NK fp h):p.1∈fp/\h.get? p.1=some p.2:=by
 obtain⟨b,hb,e⟩:=List.mem_filterMap.mp hp;cases q:h.get? b with
 | none=>rw[q]at e;cases e
 | some o =>
  rw[q]at e;have e':(b,o)=p:=Yi e
  subst e';exact⟨hb,q⟩
theorem Inv.pinned{pins:List (Addr × Obj)}{σ:St}{H:Hp}{s:Shared}{fp:List Addr}(I:Inv X pins σ H s)(hf:∀ b∈fp,FpOk X pins H b)(ho:∀ b∈fp,∃ o,s.heap.get? b=some o/\∀ v,o.data≠.cell v):Inv X (pins++NK fp s.heap) σ H s :=
 I.pins_of λp hp=>(Xr.mp hp).elim (λz=>I.pin p (Yg _ z)) λz=>by obtain⟨hb,e⟩:=iG z;obtain⟨f0,f1,f2,_⟩:=hf p.1 hb;obtain⟨o,e',d⟩:=ho p.1 hb;rw[e]at e';cases e';exact⟨e,f0,f1,f2,d⟩
theorem Inv.unpinned{pins pl:List (Addr × Obj)}{σ:St}{H:Hp}{s:Shared}(I:Inv X (pins++pl) σ H s):Inv X pins σ H s:=I.pins_of λp hp=>I.pin p (Yg _ (Ye _ hp))
theorem Vb{iter:Expr}{body:List Stmt}{wi:TI}{g:TG}{tb:TS}{pos:Pos}(hp:PassesOwn (model X.prog X.w) X.A X.env X.xe)(hc:X.calm=true)(hi:PI X tg iter wi)(hg:PG X tg g)(hb:PSs X body tb)
  (hs:∀ x,foldedSetIterable iter X.env x=pure x:=by intro _;rfl):PS X (.For tg iter body [] pos) (vY wi g tb):=by
 intro pins s σ H D I h;refine wpAny_For (thn (hi pins s σ H _ I h) λv s1 h1=>thn h1 λwc s2 h2=>?_) hs;obtain⟨it,fp,tn,J,H2,e,I2,T,NI,f2,W,⟨m0,w0⟩,turn⟩:=h2;subst e;have Kr:∀ {H':Hp},(∀ b∈fp,H' b=none)->∀ b∈fp,FpOk X pins H' b:=λhn b hb=>⟨hn b hb,(f2 b hb).2⟩
 refine codeAny_forLoop_any (λn s'=>∃ i σ' H',Inv X pins σ' H' s'/\tn i s'.heap/\(∀ b∈fp,H' b=none)/\W i n σ' H') ?_ m0 ⟨0,σ,H2,I2,NI,λb hb=>(f2 b hb).1,w0⟩;rintro n s3 ⟨i,σ3,H3,I3,iF,iE,w3⟩;rcases turn i n σ3 H3 w3 with ⟨stop,qn⟩ | ⟨go,N,hN,step⟩
 .refine KY hp (thn (T.done X rfl rfl rfl hc i pins s3 σ3 H3 X.xe I3 (Kr iE) iF stop) λr s4 ⟨hr,I4⟩=>?_);subst hr;exact Ao ⟨σ3,H3,I4,qn⟩
 .refine KY hp (thn (T.item X rfl rfl rfl hc i pins s3 σ3 H3 X.xe I3 (Kr iE) iF go) λr s4 Xt=>?_);obtain⟨u,hr,h4⟩:=Xt;subst hr;refine KY hp (thn h4 λ_ s5 Xt=>?_);obtain⟨x,H5,I5,r5,y5,Kq,vX⟩:=Xt;have vW:=I5.pinned (Kr vX) (T.obj _ _ Kq)
  refine KY hp (thn (hg _ s5 σ3 H5 x u _ vW r5 (step x H5 y5)) λ_ s6 Xt=>?_);obtain⟨σ6,H6,I6,q6⟩:=Xt;refine KY hp (thn (hb _ s6 σ6 H6 _ I6 q6) λf s7 q7=>?_);have again:∀ {σ7:St} {H7:Hp},Inv X (pins++NK fp s5.heap) σ7 H7 s7->N σ7 H7->∃ m,m<n/\∃ i σ' H',Inv X pins σ' H' s7/\tn i s7.heap/\(∀ b∈fp,H' b=none)/\W i m σ' H':=λ{σ7 H7} I7 n7=>by obtain⟨m',hm,w7⟩:=hN σ7 H7 n7;refine⟨m',hm,i+1,σ7,H7,I7.unpinned,T.keep _ _ _ Kq λb hb o e=>(I7.pin (b,o) (Yg _ (Yg _ (NJ hb e)))).1,λb hb=>?_,w7⟩;obtain⟨o,e,d⟩:=T.obj _ _ Kq b hb;exact(I7.pin (b,o) (Yg _ (Yg _ (NJ hb e)))).2.1
  cases f with
  | next=>obtain⟨σ7,H7,I7,n7⟩:=q7;exact again I7 n7
  | cont=>obtain⟨σ7,H7,I7,n7⟩:=q7;exact again I7 n7
  | brk=>obtain⟨σ7,H7,I7,q7⟩:=q7;exact⟨σ7,H7,I7.unpinned,q7⟩
  | ret v=>obtain⟨x7,σ7,H7,I7,r7,q7⟩:=q7;exact⟨x7,σ7,H7,I7.unpinned,r7,q7⟩
end
theorem HJ{K:Ad}{a:Addr}{xs:List V}{g:TG}{tb:TS}{D:Ends}{σ:St}{H:Hp}(Pv:Nat->St->Hp->Prop)(h0:Pv 0 σ H)(hl:∀ i σ H,i<=xs.length->Pv i σ H->SqL K H a xs)
  (hs:∀ i x σ H,xs[i]?=some x->Pv i σ H->g x σ H λσ2 H2=>tb { D with nx:=Pv (i+1),ct:=Pv (i+1),bk:=D.nx } σ2 H2) (hd:∀ σ H,Pv xs.length σ H->D.nx σ H) :
  ∃ W:Nat->Nat->St->Hp->Prop,(∃ m,W 0 m σ H)/\∀ i m σ H,W i m σ H ->
   ((Qn K a).stop i H/\D.nx σ H)\/((Qn K a).go i H/\∃ N:St->Hp->Prop,(∀ σ' H',N σ' H'->∃ m',m'<m/\W (i+1) m' σ' H')/\∀ x H',(Qn K a).yld i H x H'->g x σ H' λσ2 H2=>tb { D with nx:=N,ct:=N,bk:=D.nx } σ2 H2):=by
 refine⟨λi m σ H=>m=xs.length - i/\i<=xs.length/\Pv i σ H,⟨xs.length,by simp,Yk _,h0⟩,?_⟩;rintro i m σ H ⟨rfl,hi,p⟩;have q:=hl i σ H hi p
 by_cases Xe:i<xs.length
 .refine .inr ⟨⟨xs,xs[i],q,by simp[Xe]⟩,Pv (i+1),λσ' H' p'=>⟨xs.length - (i+1),by omega,rfl,Xe,p'⟩,λx H' y=>?_⟩;obtain⟨e,y⟩:=y;subst e;exact hs i x σ _ (y xs q) p
 .have e:i=xs.length:=by omega
  subst e;exact .inl ⟨⟨xs,q,XJ _⟩,hd σ H p⟩
theorem iC{K:Ad}{a:Addr}{xs:List V}{g:TG}{tb:TS}{D:Ends}{σ:St}{H:Hp}(Pv:Nat->St->Hp->Prop)(h0:Pv 0 σ H)(hl:∀ i σ H,i<=xs.length->Pv i σ H->SqT K H a xs)
  (hs:∀ i x σ H,xs[i]?=some x->Pv i σ H->g x σ H λσ2 H2=>tb { D with nx:=Pv (i+1),ct:=Pv (i+1),bk:=D.nx } σ2 H2) (hd:∀ σ H,Pv xs.length σ H->D.nx σ H) :
  ∃ W:Nat->Nat->St->Hp->Prop,(∃ m,W 0 m σ H)/\∀ i m σ H,W i m σ H ->
   ((Qm K a).stop i H/\D.nx σ H)\/((Qm K a).go i H/\∃ N:St->Hp->Prop,(∀ σ' H',N σ' H'->∃ m',m'<m/\W (i+1) m' σ' H')/\∀ x H',(Qm K a).yld i H x H'->g x σ H' λσ2 H2=>tb { D with nx:=N,ct:=N,bk:=D.nx } σ2 H2):=by
 refine⟨λi m σ H=>m=xs.length - i/\i<=xs.length/\Pv i σ H,⟨xs.length,by simp,Yk _,h0⟩,?_⟩;rintro i m σ H ⟨rfl,hi,p⟩;have q:=hl i σ H hi p
 by_cases Xe:i<xs.length
 .refine .inr ⟨⟨xs,xs[i],q,by simp[Xe]⟩,Pv (i+1),λσ' H' p'=>⟨xs.length - (i+1),by omega,rfl,Xe,p'⟩,λx H' y=>?_⟩;obtain⟨e,y⟩:=y;subst e;exact hs i x σ _ (y xs q) p
 .have e:i=xs.length:=by omega
  subst e;exact .inl ⟨⟨xs,q,XJ _⟩,hd σ H p⟩
theorem HI{lo:Int}{n:Nat}{g:TG}{tb:TS}{D:Ends}{σ:St}{H:Hp}(Pv:Nat->St->Hp->Prop)(h0:Pv 0 σ H)
  (hs:∀ i σ H,i<n->Pv i σ H->g (.int (lo+i)) σ H λσ2 H2=>tb { D with nx:=Pv (i+1),ct:=Pv (i+1),bk:=D.nx } σ2 H2) (hd:∀ σ H,Pv n σ H->D.nx σ H) :
  ∃ W:Nat->Nat->St->Hp->Prop,(∃ m,W 0 m σ H)/\∀ i m σ H,W i m σ H ->
   ((Me lo n).stop i H/\D.nx σ H)\/((Me lo n).go i H/\∃ N:St->Hp->Prop,(∀ σ' H',N σ' H'->∃ m',m'<m/\W (i+1) m' σ' H')/\∀ x H',(Me lo n).yld i H x H'->g x σ H' λσ2 H2=>tb { D with nx:=N,ct:=N,bk:=D.nx } σ2 H2):=by
 refine⟨λi m σ H=>m=n - i/\i<=n/\Pv i σ H,⟨n,by simp,Yk _,h0⟩,?_⟩;rintro i m σ H ⟨rfl,hi,p⟩;by_cases Xe:i<n
 .refine .inr ⟨Xe,Pv (i+1),λσ' H' p'=>⟨n - (i+1),by omega,rfl,Xe,p'⟩,λx H' y=>?_⟩;obtain⟨e,y⟩:=y;subst e y;exact hs i σ _ Xe p
 .have e:i=n:=by omega
  subst e;exact .inl ⟨XJ _,hd σ H p⟩
abbrev R2:=V->V->Hp->VK->Prop
def WK(X:Cx)(f:Value->Value->Sem Value)(r:R2):Prop :=
 ∀(pins:List (Addr × Obj)) (s:Shared) (σ:St) (H:Hp) (x y:V) (v u:Value) (Q:VK),Inv X pins σ H s->RelV x v->RelV y u->r x y H Q ->
  wpAny (model X.prog X.w) X.A (f v u) (EP X pins σ Q) X.xe s
def vV(X:Cx)(f:Value->Sem Value)(r:V->Hp->VK->Prop):Prop :=
 ∀(pins:List (Addr × Obj)) (s:Shared) (σ:St) (H:Hp) (x:V) (v:Value) (Q:VK),Inv X pins σ H s->RelV x v->r x H Q ->
  wpAny (model X.prog X.w) X.A (f v) (EP X pins σ Q) X.xe s
def VM(X:Cx)(f:Value)(r:List V->Hp->VK->Prop):Prop :=
 ∀(pins:List (Addr × Obj)) (s:Shared) (σ:St) (H:Hp) (xs:List V) (us:Ag) (Q:VK),Inv X pins σ H s->Vals xs us->r xs H Q ->
  wpAny (model X.prog X.w) X.A (call f us) (EP X pins σ Q) X.xe s
def zW(r:R2)(ta tb:TE):TE:=λσ H Q=>ta σ H λx H1=>tb σ H1 λy H2=>r x y H2 Q
def aM(r:V->Hp->VK->Prop)(ta:TE):TE:=λσ H Q=>ta σ H λx H1=>r x H1 Q
def rI(C:Int->Int->Prop)(g:Int->Int->V):R2:=λx y H Q=>∃ i j,x=.int i/\y=.int j/\C i j/\Q (g i j) H
def Md(g:Int->Int->V):R2:=λx y H Q=>∃ i j,x=.int i/\y=.int j/\Q (g i j) H
def rU(g:Int->V):V->Hp->VK->Prop:=λx H Q=>∃ i,x=.int i/\Q (g i) H
section
variable{X:Cx}{a b:Expr}{ta tb:TE}{pos:Pos}
theorem Kp(ha:PE X a ta)(hb:PE X b tb){pins:List (Addr × Obj)}{s:Shared}{σ:St}{H:Hp}{R:V->V->Hp->Prop}(I:Inv X pins σ H s)
  (h:ta σ H λx H1=>tb σ H1 λy H2=>R x y H2) {Q:Ae} {f:Value->Value->Sem Value}
  (hf:∀ v u s2 x y H2,Inv X pins σ H2 s2->RelV x v->RelV y u->R x y H2->wpAny (model X.prog X.w) X.A (f v u) Q X.xe s2) :
  wpAny (model X.prog X.w) X.A (eval a X.env) (λv s₁=>wpAny (model X.prog X.w) X.A (eval b X.env) (λu s₂=>wpAny (model X.prog X.w) X.A (f v u) Q X.xe s₂) X.xe s₁) X.xe s:=by refine thn (ha pins s σ H _ I h) λv s1 Xt=>?_;obtain⟨x,H1,I1,r1,q1⟩:=Xt;refine thn (hb pins s1 σ H1 _ I1 q1) λu s2 Xt=>?_;obtain⟨y,H2,I2,r2,q2⟩:=Xt;exact hf v u s2 x y H2 I2 r1 r2 q2
theorem Zr{op:Operator}{r:R2}(ho:WK X (binaryOp op) r)(ha:PE X a ta)(hb:PE X b tb):PE X (.BinOp a op b pos) (zW r ta tb):=by intro pins s σ H Q I h;exact wpAny_BinOp (Kp ha hb I h λv u s2 x y H2 I2 rx ry q=>ho pins s2 σ H2 x y v u Q I2 rx ry q)
theorem FV{op:UnaryOp}{r:V->Hp->VK->Prop}(ho:vV X (unaryOp op) r)(ha:PE X a ta):PE X (.UnaryOp op a pos) (aM r ta):=by intro pins s σ H Q I h;exact UnaryOp_ (thn (ha pins s σ H _ I h) λv s1 ⟨x,H1,I1,r1,q1⟩=>ho pins s1 σ H1 x v Q I1 r1 q1)
theorem HH{f:Value->Value->Sem Value}{C:Int->Int->Prop}{g:Int->Int->Int}
  (rule:∀(i j:Int) (t u:Tok) (s:Shared) (Q:Ae) (E:Ae),C i j->Q (.int (g i j) s.toks) { s with toks:=s.toks+1 }->wpAny (model X.prog X.w) X.A (f (.int i t) (.int j u)) Q E s) :
  WK X f (rI C λi j=>.int (g i j)):=by intro pins s σ H x y v u Q I rx ry h;obtain⟨i,j,rfl,rfl,hc,q⟩:=h;obtain⟨t,rfl⟩:=rx;obtain⟨t',rfl⟩:=ry;exact rule i j t t' s _ _ hc ⟨.int (g i j),H,I.tok _,⟨_,rfl⟩,q⟩
theorem FU{f:Value->Value->Sem Value}{g:Int->Int->Int}
  (rule:∀(i j:Int) (t u:Tok) (s:Shared) (Q:Ae) (E:Ae),Q (.int (g i j) s.toks) { s with toks:=s.toks+1 }->wpAny (model X.prog X.w) X.A (f (.int i t) (.int j u)) Q E s) :
  WK X f (Md λi j=>.int (g i j)):=by intro pins s σ H x y v u Q I rx ry h;obtain⟨i,j,rfl,rfl,q⟩:=h;obtain⟨t,rfl⟩:=rx;obtain⟨t',rfl⟩:=ry;exact rule i j t t' s _ _ ⟨.int (g i j),H,I.tok _,⟨_,rfl⟩,q⟩
theorem NH{f:Value->Value->Sem Value}{g:Int->Int->Bool}
  (rule:∀(i j:Int) (t u:Tok) (s:Shared) (Q:Ae) (E:Ae),Q (.bool (g i j)) s->wpAny (model X.prog X.w) X.A (f (.int i t) (.int j u)) Q E s) :
  WK X f (Md λi j=>.bl (g i j)):=by intro pins s σ H x y v u Q I rx ry h;obtain⟨i,j,rfl,rfl,q⟩:=h;obtain⟨t,rfl⟩:=rx;obtain⟨t',rfl⟩:=ry;exact rule i j t t' s _ _ ⟨.bl (g i j),H,I,rfl,q⟩
def FT(i j:Int):Prop:=0<j/\j<1073741824
def vU(i j:Int):Prop:=0<=j/\j<=1000000/\i.natAbs<2 ^ 64
def CMul(i j:Int):Prop:=(-(2 ^ 64)<i/\i<2 ^ 64)\/(-(2 ^ 64)<j/\j<2 ^ 64)
theorem CMul.ok{i j:Int}(h:CMul i j):IntMulOk i j:=by
 rcases h with ⟨h1,h2⟩ | ⟨h1,h2⟩
 .exact .of_left (intBits_le_64 h1 h2)
 .exact .of_right (intBits_le_64 h1 h2)
theorem Uo:WK X (binaryOp .Add) (Md λi j=>.int (i+j)):=FU λ_ _ _ _ _ _ _ q=>add_int q
theorem VS:WK X (binaryOp .Sub) (Md λi j=>.int (i - j)):=FU λ_ _ _ _ _ _ _ q=>sub_int q
theorem Ql:WK X (binaryOp .Mult) (rI CMul λi j=>.int (i * j)):=HH λ_ _ _ _ _ _ _ hc q=>mul_int q hc.ok
theorem QX:WK X (binaryOp .FloorDiv) (rI FT λi j=>.int (i / j)):=HH λi j _ _ _ _ _ hc q=>by
 have h1:(0:Int)<j:=hc.1;have h2:j<1073741824:=hc.2
 exact floordiv_int (by omega) (by rwa[Int.fdiv_eq_ediv_of_nonneg i (by omega)]) (.inl (PyProof.noPylong_small (by omega)))
theorem ZO:WK X (binaryOp .Mod) (rI (λ_ j=>0<j) λi j=>.int (i % j)):=HH λi j _ _ _ _ _ hc q=>by have h1:(0:Int)<j:=hc;exact mod_int' (by omega) (by rwa[Int.fmod_eq_emod_of_nonneg i (by omega)])
theorem Mc:WK X (binaryOp .Pow) (rI vU λi j=>.int (i ^ j.toNat)):=HH λ_ _ _ _ _ _ _ hc q=>pow_int_small hc.1 hc.2.1 hc.2.2 q
theorem aL{f:Value->Sem Value}{g:Int->Int}
  (rule:∀(i:Int) (t:Tok) (s:Shared) (Q:Ae) (E:Ae),Q (.int (g i) s.toks) { s with toks:=s.toks+1 }->wpAny (model X.prog X.w) X.A (f (.int i t)) Q E s) :
  vV X f (rU λi=>.int (g i)):=by intro pins s σ H x v Q I rx h;obtain⟨i,rfl,q⟩:=h;obtain⟨t,rfl⟩:=rx;exact rule i t s _ _ ⟨.int (g i),H,I.tok _,⟨_,rfl⟩,q⟩
theorem FR:vV X (unaryOp .USub) (rU λi=>.int (-i)):=aL λ_ _ _ _ _ q=>neg_int q
end
def scal:V->V->Bool
 | .non,.non=>true | .non,.int _=>true | .int _,.non=>true | .non,.bl _=>true | .bl _,.non=>true | .non,.str _=>true | .str _,.non=>true
 | .int _,.int _=>true | .bl _,.bl _=>true | .str _,.str _=>true | .byt _,.byt _=>true
 | .int _,.str _=>true | .str _,.int _=>true | .bl _,.str _=>true | .str _,.bl _=>true
 | _,_=>false
def aK:R2:=λx y H Q=>scal x y=true/\Q (.bl (decide (x=y))) H
def aJ:R2:=λx y H Q=>scal x y=true/\Q (.bl (!decide (x=y))) H
theorem ZD{i j:Int}:decide (V.int i=V.int j)=(i == j):=by rw[Sa];simp
theorem FQ{i j:Bool}:decide (V.bl i=V.bl j)=(i == j):=by rw[Sa];simp
theorem iz{i j:Str}:decide (V.str i=V.str j)=(i == j):=by rw[Sa];simp
theorem iy{i j:Array UInt8}:decide (V.byt i=V.byt j)=(i.toList == j.toList):=by rw[Sa];cases i;cases j;simp
section
variable{X:Cx}{a b c:Expr}{ta tb tc:TE}{pos:Pos}
theorem ZP{pins:List (Addr × Obj)}{σ:St}{H:Hp}{s:Shared}{Q:VK}{k k':Bool}(I:Inv X pins σ H s)(q:Q (.bl k) H)(e:k=k'):EP X pins σ Q (.bool k') s:=by subst e;exact⟨.bl k,H,I,rfl,q⟩
theorem VD:WK X (compareOp .Eq) aK:=by
 intro pins s σ H x y v u Q I rx ry h;obtain⟨hs,q⟩:=h;cases x with
 | non =>
  cases rx;cases y with
  | non=>cases ry;exact PySem.EqNone.eq_none_none (ZP I q (by simp))
  | bl j=>cases ry;exact PySem.EqNone.eq_none_bool (ZP I q (by simp))
  | int j=>obtain⟨t',rfl⟩:=ry;exact PySem.EqNone.eq_none_int (ZP I q (by simp))
  | str j=>obtain⟨t',rfl⟩:=ry;exact PySem.EqNone.eq_none_str (ZP I q (by simp))
  | _=>exact absurd (show false=true from hs) Yy
 | bl i =>
  cases rx;cases y with
  | non=>cases ry;exact PySem.EqNone.eq_bool_none (ZP I q (by simp))
  | bl j=>cases ry;exact eq_bool (ZP I q FQ)
  | str j=>obtain⟨t',rfl⟩:=ry;exact PySem.EqMixed.eq_bool_str (ZP I q (by simp))
  | _=>exact absurd (show false=true from hs) Yy
 | int i =>
  obtain⟨t,rfl⟩:=rx;cases y with
  | non=>cases ry;exact PySem.EqNone.eq_int_none (ZP I q (by simp))
  | int j=>obtain⟨t',rfl⟩:=ry;exact eq_int (ZP I q ZD)
  | str j=>obtain⟨t',rfl⟩:=ry;exact PySem.EqMixed.eq_int_str (ZP I q (by simp))
  | _=>exact absurd (show false=true from hs) Yy
 | str i =>
  obtain⟨t,rfl⟩:=rx;cases y with
  | non=>cases ry;exact PySem.EqNone.eq_str_none (ZP I q (by simp))
  | bl j=>cases ry;exact PySem.EqMixed.eq_str_bool (ZP I q (by simp))
  | int j=>obtain⟨t',rfl⟩:=ry;exact PySem.EqMixed.eq_str_int (ZP I q (by simp))
  | str j=>obtain⟨t',rfl⟩:=ry;exact eq_str (ZP I q iz)
  | _=>exact absurd (show false=true from hs) Yy
 | byt i =>
  obtain⟨t,rfl⟩:=rx;cases y with
  | byt j=>obtain⟨t',rfl⟩:=ry;exact PySem.W.eq_bytes (ZP I q iy)
  | _=>exact absurd (show false=true from hs) Yy
 | _=>cases y <;> exact absurd (show false=true from hs) Yy
theorem Wo:WK X (compareOp .NotEq) aJ:=by
 intro pins s σ H x y v u Q I rx ry h;obtain⟨hs,q⟩:=h;cases x with
 | non =>
  cases rx;cases y with
  | non=>cases ry;exact PySem.EqNone.ne_none_none (ZP I q (by simp))
  | bl j=>cases ry;exact PySem.EqNone.ne_none_bool (ZP I q (by simp))
  | int j=>obtain⟨t',rfl⟩:=ry;exact PySem.EqNone.ne_none_int (ZP I q (by simp))
  | str j=>obtain⟨t',rfl⟩:=ry;exact PySem.EqNone.ne_none_str (ZP I q (by simp))
  | _=>exact absurd (show false=true from hs) Yy
 | bl i =>
  cases rx;cases y with
  | non=>cases ry;exact PySem.EqNone.ne_bool_none (ZP I q (by simp))
  | bl j=>cases ry;exact ne_bool (ZP I q (Xx not FQ))
  | str j=>obtain⟨t',rfl⟩:=ry;exact PySem.EqMixed.ne_bool_str (ZP I q (by simp))
  | _=>exact absurd (show false=true from hs) Yy
 | int i =>
  obtain⟨t,rfl⟩:=rx;cases y with
  | non=>cases ry;exact PySem.EqNone.ne_int_none (ZP I q (by simp))
  | int j=>obtain⟨t',rfl⟩:=ry;exact ne_int (ZP I q (Xx not ZD))
  | str j=>obtain⟨t',rfl⟩:=ry;exact PySem.EqMixed.ne_int_str (ZP I q (by simp))
  | _=>exact absurd (show false=true from hs) Yy
 | str i =>
  obtain⟨t,rfl⟩:=rx;cases y with
  | non=>cases ry;exact PySem.EqNone.ne_str_none (ZP I q (by simp))
  | bl j=>cases ry;exact PySem.EqMixed.ne_str_bool (ZP I q (by simp))
  | int j=>obtain⟨t',rfl⟩:=ry;exact PySem.EqMixed.ne_str_int (ZP I q (by simp))
  | str j=>obtain⟨t',rfl⟩:=ry;exact ne_str (ZP I q (Xx not iz))
  | _=>exact absurd (show false=true from hs) Yy
 | byt i =>
  obtain⟨t,rfl⟩:=rx;cases y with
  | byt j=>obtain⟨t',rfl⟩:=ry;exact PySem.W.ne_bytes (ZP I q (Xx not iy))
  | _=>exact absurd (show false=true from hs) Yy
 | _=>cases y <;> exact absurd (show false=true from hs) Yy
theorem SW:WK X (compareOp .Lt) (Md λi j=>.bl (decide (i<j))):=NH λ_ _ _ _ _ _ _ q=>lt_int q
theorem Ua:WK X (compareOp .LtE) (Md λi j=>.bl (decide (i<=j))):=NH λ_ _ _ _ _ _ _ q=>le_int q
theorem UC:WK X (compareOp .Gt) (Md λi j=>.bl (decide (j<i))):=NH λ_ _ _ _ _ _ _ q=>gt_int q
theorem FP:WK X (compareOp .GtE) (Md λi j=>.bl (decide (j<=i))):=NH λ_ _ _ _ _ _ _ q=>ge_int q
theorem Mb:WK X (compareOp .Is) (λx y H Q=>y=.non/\Q (.bl (decide (x=.non))) H):=by
 intro pins s σ H x y v u Q I rx ry h;obtain⟨rfl,q⟩:=h;cases ry;refine is_none_gen (ZP I q ?_);cases x <;> first
  | (cases rx;rfl)
  | (obtain⟨t,rfl⟩:=rx;rfl)
theorem aI:WK X (compareOp .NotIn) (λx y H Q=>∃ i j,x=.str i/\y=.str j/\Q (.bl (!(!(Builtin.Str.occurrences j i 0 j.length 1).isEmpty))) H):=by intro pins s σ H x y v u Q I rx ry h;obtain⟨i,j,rfl,rfl,q⟩:=h;obtain⟨t,rfl⟩:=rx;obtain⟨t',rfl⟩:=ry;exact notIn_str (ZP I q rfl)
theorem Zt(b:Expr){op:CmpOp}(h:op≠.In:=by decide)(h2:op≠.NotIn:=by decide):behindInMarks op b=false:=by
 have e1:(op == CmpOp.In)=false:=by cases op <;> first | rfl | exact absurd rfl h
 have e2:(op == CmpOp.NotIn)=false:=by cases op <;> first | rfl | exact absurd rfl h2
 cases b <;> simp[behindInMarks,e1,e2]
theorem NG{op:CmpOp}{r:R2}(ho:WK X (compareOp op) r)(ha:PE X a ta)(hb:PE X b tb)(hm:behindInMarks op b=false):PE X (.Compare a [op] [b] pos) (zW r ta tb):=by intro pins s σ H Q I h;exact wpAny_Compare1 (Kp ha hb I h λv u s2 x y H2 I2 rx ry q=>ho pins s2 σ H2 x y v u Q I2 rx ry q) hm
def Ma(t:TE):TT:=λσ H Q=>t σ H λx H'=>∃ k,x=.bl k/\Q k H'
theorem Zf{op:CmpOp}{r:R2}(ho:WK X (compareOp op) r)(ha:PE X a ta)(hb:PE X b tb)(hm:behindInMarks op b=false):PT X (.Compare a [op] [b] pos) (Ma (zW r ta tb)):=by
 intro pins s σ H Q I h;refine wpAny_isTrue_Compare1 (thn (ha pins s σ H _ I h) λv s1 ⟨x,H1,I1,r1,q1⟩=>thn (hb pins s1 σ H1 _ I1 q1) λu s2 ⟨y,H2,I2,r2,q2⟩ =>
  thn (ho pins s2 σ H2 x y v u _ I2 r1 r2 q2) λc s3 ⟨z,H3,I3,r3,k,e,q3⟩=>?_) hm
 subst e;cases r3;exact QF ⟨H3,I3,q3⟩
def FO(r r':R2)(ta tb tc:TE):TE:=λσ H Q=>ta σ H λx H1=>tb σ H1 λy H2=>r x y H2 λz H3=>∃ k,z=.bl k /\
 (if k=true then tc σ H3 λw' H4=>r' y w' H4 Q else Q (.bl false) H3)
theorem vT{op Ko:CmpOp}{r r':R2}(ho:WK X (compareOp op) r)(Vu:WK X (compareOp Ko) r')(ha:PE X a ta)(hb:PE X b tb)(hc:PE X c tc)
  (hm:lastMarks [op,Ko] [b,c]=false:=by with_unfolding_all rfl):PE X (.Compare a [op,Ko] [b,c] pos) (FO r r' ta tb tc):=by
 intro pins s σ H Q I h;refine Compare_chain (thn (ha pins s σ H _ I h) λv s1 ⟨x,H1,I1,r1,q1⟩=>chain_link (thn (hb pins s1 σ H1 _ I1 q1) λu s2 ⟨y,H2,I2,r2,q2⟩ =>
  thn (ho pins s2 σ H2 x y v u _ I2 r1 r2 q2) λd s3 ⟨z,H3,I3,r3,k,e,q3⟩=>?_)) hm
 subst e;cases r3;refine QF ?_;cases k with
 | false=>exact ite_ff ⟨.bl false,H3,I3,rfl,q3⟩
 | true=>exact ite_tt (chain_last (thn (hc pins s3 σ H3 _ I3 q3) λw' s4 ⟨z',H4,I4,r4,q4⟩=>Vu pins s4 σ H4 y z' u w' Q I4 r2 r4 q4))
theorem vS{op Ko:CmpOp}{r r':R2}(ho:WK X (compareOp op) r)(Vu:WK X (compareOp Ko) r')(ha:PE X a ta)(hb:PE X b tb)(hc:PE X c tc)
  (hm:lastMarks [op,Ko] [b,c]=false:=by with_unfolding_all rfl):PT X (.Compare a [op,Ko] [b,c] pos) (Ma (FO r r' ta tb tc)):=by
 intro pins s σ H Q I h;refine isTrue_chain (thn (ha pins s σ H _ I h) λv s1 ⟨x,H1,I1,r1,q1⟩=>test_link (thn (hb pins s1 σ H1 _ I1 q1) λu s2 ⟨y,H2,I2,r2,q2⟩ =>
  thn (ho pins s2 σ H2 x y v u _ I2 r1 r2 q2) λd s3 ⟨z,H3,I3,r3,k,e,q3⟩=>?_)) hm
 subst e;cases r3;refine QF ?_;cases k with
 | false =>
  obtain⟨k',e',q'⟩:=q3;cases e';exact ite_ff ⟨H3,I3,q'⟩
 | true =>
  refine ite_tt (test_last (thn (hc pins s3 σ H3 _ I3 q3) λw' s4 ⟨z',H4,I4,r4,q4⟩=>thn (Vu pins s4 σ H4 y z' u w' _ I4 r2 r4 q4) λd' s5 Xt=>?_));obtain⟨z2,H5,I5,r5,k2,e2,q5⟩:=Xt;subst e2;cases r5;exact QF ⟨H5,I5,q5⟩
theorem Km:(sizeLine:Nat)<2 ^ 63:=by rw[Sx];decide
theorem aH:WK X (binaryOp .Add) (λx y H Q=>∃ i j,x=.str i/\y=.str j/\i.length+j.length<=sizeLine/\Q (.str (i++j)) H):=by intro pins s σ H x y v u Q I rx ry h;obtain⟨i,j,rfl,rfl,hz,q⟩:=h;obtain⟨t,rfl⟩:=rx;obtain⟨t',rfl⟩:=ry;exact add_str (λt' tk=>⟨.str (i++j),H,I.tok _,⟨_,rfl⟩,q⟩) hz
theorem WJ{x:V}{us:Ag}(r:Vals [x] us):∃ u,us=[u]/\RelV x u:=by
 cases r with
 | cons r1 r2=>cases r2;exact⟨_,rfl,r1⟩
theorem Kl{x y:V}{us:Ag}(r:Vals [x,y] us):∃ u w',us=[u,w']/\RelV x u/\RelV y w':=by
 cases r with
 | cons r1 r2 =>
  cases r2 with
  | cons r3 r4=>cases r4;exact⟨_,_,rfl,r1,r3⟩
theorem zV (hc:X.calm=true):VM X (.builtin "max") (λxs H Q=>∃ i j,xs=[.int i,.int j]/\Q (.int (if j > i then j else i)) H):=by
 intro pins s σ H xs us Q I r h;obtain⟨i,j,rfl,q⟩:=h;obtain⟨u,w',rfl,⟨t,rfl⟩,⟨t',rfl⟩⟩:=Kl r;refine max_two_ints (I.ok.hd hc) λh' tk k=>⟨_,H,I.kept k,?_,q⟩;by_cases hj:j > i
 .rw[if_pos hj,if_pos hj];exact⟨_,rfl⟩
 .rw[if_neg hj,if_neg hj];exact⟨_,rfl⟩
theorem Qk (hc:X.calm=true):VM X (.builtin "min") (λxs H Q=>∃ i j,xs=[.int i,.int j]/\Q (.int (if j<i then j else i)) H):=by
 intro pins s σ H xs us Q I r h;obtain⟨i,j,rfl,q⟩:=h;obtain⟨u,w',rfl,⟨t,rfl⟩,⟨t',rfl⟩⟩:=Kl r;refine min_two_ints (I.ok.hd hc) λh' tk k=>⟨_,H,I.kept k,?_,q⟩;by_cases hj:j<i
 .rw[if_pos hj,if_pos hj];exact⟨_,rfl⟩
 .rw[if_neg hj,if_neg hj];exact⟨_,rfl⟩
theorem aG:VM X (.type "str") (λxs H Q=>∃ i,xs=[.int i]/\i.natAbs.log2<1920/\Q (.str (toString i)) H):=by intro pins s σ H xs us Q I r h;obtain⟨i,rfl,hz,q⟩:=h;obtain⟨u,rfl,t,rfl⟩:=WJ r;exact PySem.P.str_of_int hz ⟨.str _,H,I.tok _,⟨_,rfl⟩,q⟩
end
structure ObjM (h:Heap) (x dx C:Addr) (mA:Af):Prop where
 obj:h.get? x=some (PySem.W.instObj C dx)
 ns:h.Ns1 dx mA
 ne:dx≠x
theorem aE{h:Heap}{dx:Addr}{mA:Af}(n:h.Ns1 dx mA):∃ od,h.get? dx=some od/\∀ name,PySem.W.lookIn name od=some (mA name):=by
 obtain⟨o,es,ep,ho,hd,hk,_,hm⟩:=n;refine⟨o,ho,λname=>?_⟩;have e:=hm name
 unfold nsFind findBy at e;rw[<- Array.find?_toList]at e;unfold PySem.W.lookIn;rw[hd];dsimp only;split
 .rename_i y q;rw[q]at e;exact Xx some e
 .rename_i q;rw[q]at e;have a:es.toList.any (·.refKey)=false:=by rw[List.any_eq_false];intro y hy;obtain⟨z,t,vR⟩:=hk y (Array.mem_toList_iff.mp hy);simp[DictEntry.refKey,vR]
  have a':¬ es.toList.any (·.refKey)=true:=by rw[a];exact Yy
  rw[if_neg a'];exact Xx some e
theorem ObjM.look{h:Heap}{x dx C:Addr}{mA:Af}(I:ObjM h x dx C mA):∃ od,PySem.W.InstAt h x (PySem.W.instObj C dx) C (some od)/\∀ name,PySem.W.lookIn name od=some (mA name) :=
 let ⟨od,ho,hl⟩:=aE I.ns
 ⟨od,⟨I.obj,rfl,rfl,ho⟩,hl⟩
section
variable{prog:Program}{w:World}{A:Around}{E:Ae}{s:Shared}{K:Ad}{x dx C f:Addr}{mA:Af}{name:Str}{v:Value}
theorem vQ{expr:Bool}{Q:Ae}(X:K.In s.heap)(I:ObjM s.heap x dx C mA)(hg:PySem.W.plainGet K C name=true)(hh:PySem.W.hasDictIn K C=true)
  (ha:PySem.W.findIn K (.ref C) name=some none) (hv:mA name=some v) (zU:PySem.W.handedIn v=true) (h:Q v { s with toks:=s.toks+1 }) :
  wpAny (model prog w) A (getAttr (.ref x) name expr) Q E s:=by obtain⟨od,J,hl⟩:=I.look;exact PySem.W.get_value X J (PySem.W.plainGet_of hg).1 (PySem.W.findObj_own hh ha rfl (by rw[hl,hv])) zU h
theorem vP{ns:List Str}{Q:Unit->Shared->Prop}(X:K.In s.heap)(I:ObjM s.heap x dx C mA)
  (hs:PySem.W.findIn K (.ref C) "__setattr__"=some (some (.builtin "object.__setattr__"))) (hp:PySem.W.plainOver K C=true) (ht:PySem.W.takerIn K C name=some none) (hh:PySem.W.hasDictIn K C=true)
  (hw:PySem.Within mA ns) (hsz:ns.length<=sizeLine)
  (h:∀ h',ObjM h' x dx C (λy=>if y=name then some v else mA y)->Heap.SameBut dx s.heap h'->Q () { s with heap:=h',toks:=s.toks+2 }) :
  wpAny (model prog w) A (setAttr (.ref x) name v) Q E s:=by
 obtain⟨od,J,hl⟩:=I.look;refine PySem.W.set_plain X J hs (PySem.W.osa_open (s:={ s with toks:=s.toks+1 }) (r:=none) X J hp ht λb=>?_);obtain⟨cd,hc,HM⟩:=PySem.W.any_some hh;have hx:s.heap.get? x=some ⟨.ref C,some dx,.plain,#[]⟩:=I.obj
 refine XT (Ym (XT (XT (wpAny_loadPart hx (XT (PySem.W.Looks.here (s:={ s with toks:=s.toks+1 }) (PySem.W.looks_clsIn X hc) ?_))))));rw[HM];refine Ym (a:=some dx) (XT (Ym (XT ?_)));refine wpAny_nsSet1 (s:={ s with toks:=s.toks+1 }) I.ns λh' OL Ts=>?_;obtain⟨oD,esD,epD,zS,ix,az⟩:=OL.count (PySem.Within.cons name v hw);refine XT (wpAny_lookBehind zS (by rw[ix];exact pastItsLine_dict (Yv az (by rw[Yt];omega))) ?_);exact Ym (h _ ⟨(Ts.2 _ (XG I.ne)).trans I.obj,OL,I.ne⟩ Ts)
theorem vN{R:Result->Shared->Prop}{vs:Ag}{kw:List (Str × Value)}(X:K.In s.heap)(hm:PySem.W.makesIn K C=true)
  (hi:PySem.W.findIn K (.ref C) "__init__"=some (some (.ref f))) (hf:PySem.W.typeIn K (.ref f)=some (.type "function"))
  (h:codeAny (model prog w) (A.under (.builtin "type.__call__" ⟨.ref C :: vs,kw⟩)) (.call (.ref f) ⟨.ref (s.heap.objs.size+1) :: vs,kw⟩) (PySem.W.InitBack (s.heap.objs.size+1) R)
   { s with heap:=(s.heap.push PySem.W.emptyDict).push (PySem.W.instObj C s.heap.objs.size) }) :
  codeAny (model prog w) A (.call (.ref C) ⟨vs,kw⟩) R s:=by obtain⟨hh,g,d,t,os⟩:=s;exact PySem.W.make_core (PySem.W.makes_of X hm) (PySem.W.looks_findIn X hi) (λself=>PySem.W.bind_fn X self hf) (.inl rfl) h
end
def XM(f:Str)(v:V):List (Str × V)->List (Str × V)
 | []=>[(f,v)]
 | (g,x) :: r=>if g=f then (g,v) :: r else (g,x) :: XM f v r
theorem FN(f g:Str)(v:V):∀ fs:List (Str × V),(XM f v fs).lookup g=if g=f then some v else fs.lookup g
 | []=>by
  show List.lookup g [(f,v)]=_;by_cases h:g=f
  .have hb:(g == f)=true:=VT.mpr h;simp only [List.lookup,hb,if_pos h]
  .have hb:(g == f)=false:=GN.mpr h;simp only [List.lookup,hb,if_neg h]
 | (k,x) :: r=>by
  have ih:=FN f g v r;rw[show XM f v ((k,x) :: r)=(if k=f then (k,v) :: r else (k,x) :: XM f v r) from rfl];by_cases hk:k=f
  .rw[if_pos hk];by_cases h:g=k
   .have hb:(g == k)=true:=VT.mpr h;simp only [List.lookup,hb,if_pos (h.trans hk)]
   .have hb:(g == k)=false:=GN.mpr h;simp only [List.lookup,hb,if_neg (λe:g=f=>h (e.trans hk.symm))]
  .rw[if_neg hk];by_cases h:g=k
   .have hb:(g == k)=true:=VT.mpr h;simp only [List.lookup,hb,if_neg (λe:g=f=>hk (h.symm.trans e))]
   .have hb:(g == k)=false:=GN.mpr h;simp only [List.lookup,hb];exact ih
theorem vM(f:Str)(v:V):∀ fs:List (Str × V),f∈(XM f v fs).map (·.1)/\∀ g,g∈fs.map (·.1)->g∈(XM f v fs).map (·.1)
 | []=>⟨by simp[XM],λg h=>by simp at h⟩
 | (k,x) :: r=>by
  obtain⟨i1,i2⟩:=vM f v r;rw[show XM f v ((k,x) :: r)=(if k=f then (k,v) :: r else (k,x) :: XM f v r) from rfl];by_cases hk:k=f
  .rw[if_pos hk];subst hk;exact⟨by simp,λg h=>by simpa using h⟩
  .rw[if_neg hk];refine⟨?_,λg h=>?_⟩
   .rw[WL];exact Yf _ i1
   .rw[WL]at h ⊢;rcases Yh.mp h with e | e
    .exact Yh.mpr (.inl e)
    .exact Yf _ (i2 g e)
theorem FL(f:Str)(v:V):∀ fs:List (Str × V),(XM f v fs).length<=fs.length+1
 | []=>by simp[XM]
 | (k,x) :: r=>by
  have ih:=FL f v r;rw[show XM f v ((k,x) :: r)=(if k=f then (k,v) :: r else (k,x) :: XM f v r) from rfl];by_cases hk:k=f
  .rw[if_pos hk,Yt,Yt];omega
  .rw[if_neg hk,Yt,Yt];omega
theorem RelO.some_of{v:V}{o:Option Value}(r:RelO (some v) o):∃ u,o=some u/\RelV v u:=by
 cases o with
 | none=>exact(show False from r).elim
 | some u=>exact⟨u,rfl,r⟩
theorem ay{v:V}{u:Value}(r:RelV v u):PySem.W.handedIn u=true:=by
 cases v with
 | non=>cases (show u=Value.none from r);rfl
 | bl b=>cases (show u=Value.bool b from r);rfl
 | int i=>obtain⟨t,e⟩:=(show ∃ t,u=Value.int i t from r);cases e;rfl
 | str x=>obtain⟨t,e⟩:=(show ∃ t,u=Value.str x t from r);cases e;rfl
 | byt b=>obtain⟨t,e⟩:=(show ∃ t,u=Value.bytes b t from r);cases e;rfl
 | flt b=>obtain⟨t,e⟩:=(show ∃ t,u=Value.float b t from r);cases e;rfl
 | ref a=>cases (show u=Value.ref a from r);rfl
 | ty n=>cases (show u=Value.type n from r);rfl
section
variable{P:Program}{w:World}{H:Hp}{h:Heap}{a C dx:Addr}{fs:List (Str × V)}
theorem iw(hok:HOk P w H h)(e:H a=some (.ins C dx fs)):∃ mA,ObjM h a dx C mA/\(∀ f,RelO (fs.lookup f) (mA f))/\PySem.Within mA (fs.map (·.1))/\fs.length<=1000/\H dx=some (.own a):=by obtain⟨d,z,ne,ob,mA,n,r,q⟩:=(show ObjOk P w H h a (.ins C dx fs) from hok a _ e);exact⟨mA,⟨ob,n,ne⟩,r,q,z,d⟩
end
structure Cls (K:Ad) (C:Addr):Prop where
 pg:PySem.W.plainGet K C Str.empty=true
 hd:PySem.W.hasDictIn K C=true
 po:PySem.W.plainOver K C=true
 sa:PySem.W.findIn K (.ref C) "__setattr__"=some (some (.builtin "object.__setattr__"))
theorem Cls.get{K:Ad}{C:Addr}(c:Cls K C)(f:Str):PySem.W.plainGet K C f=true:=c.pg
def NoAttr(K:Ad)(C:Addr)(f:Str):Prop:=PySem.W.findIn K (.ref C) f=some none
theorem NoAttr.taker{K:Ad}{C:Addr}{f:Str}(n:NoAttr K C f):PySem.W.takerIn K C f=some none:=by unfold PySem.W.takerIn;rw[show PySem.W.findIn K (.ref C) f=some none from n];rfl
section
variable{X:Cx}{pins:List (Addr × Obj)}{σ:St}{H:Hp}{s:Shared}{a C dx:Addr}{fs:List (Str × V)}{f:Str}{v:V}{A:Around}{E:Ae}
theorem ax{b:Bool}{Q:Ae}(I:Inv X pins σ H s)(e:H a=some (.ins C dx fs))(c:Cls X.K C)(n:NoAttr X.K C f)(l:fs.lookup f=some v)
  (h:∀ u s',Inv X pins σ H s'->RelV v u->Q u s'):wpAny (model X.prog X.w) A (getAttr (.ref a) f b) Q E s:=by obtain⟨mA,O,r,_,_,_⟩:=iw I.hok e;obtain⟨u,hu,ru⟩:=RelO.some_of (v:=v) (o:=mA f) (by rw[<- l];exact r f);exact vQ I.kIn O (c.get f) c.hd n hu (ay ru) (h u _ (I.tok _) ru)
theorem aw{y:V}{u:Value}{Q:Unit->Shared->Prop}(I:Inv X pins σ H s)(e:H a=some (.ins C dx fs))(c:Cls X.K C)(n:NoAttr X.K C f)(hl:fs.length<1000)(ry:RelV y u)
  (h:∀ s',Inv X pins σ (upd H a (.ins C dx (XM f y fs))) s'->Q () s'):wpAny (model X.prog X.w) A (setAttr (.ref a) f u) Q E s:=by
 obtain⟨mA,O,r,wi,_,ho⟩:=iw I.hok e;have hz:(fs.map (·.1)).length<=sizeLine:=by rw[Ya,Sx];omega
 refine vP I.kIn O c.sa c.po n.taker c.hd wi hz λh' O' sb=>h _ ?_;have hd:∃ o,h'.get? dx=some o:=let ⟨o,_,_,e',_⟩:=O'.ns;⟨o,e'⟩
 refine I.write (x:=a) (e:=dx) (by rw[e];exact True.intro) (.inr ho) (λb q hb z=>(sb.2 b hb).trans z) hd ?_;refine⟨by rw[Za O.ne];exact ho,?_,O.ne,O'.obj,_,O'.ns,λg=>?_,λg hg=>?_⟩
 .have:=FL f y fs;omega
 .show RelO ((XM f y fs).lookup g) (if g=f then some u else mA g);rw[FN];by_cases q:g=f
  .rw[if_pos q,if_pos q];exact ry
  .rw[if_neg q,if_neg q];exact r g
 .by_cases q:g=f
  .rw[q];exact(vM f y fs).1
  .refine(vM f y fs).2 g (wi g λz=>hg ?_);show(if g=f then some u else mA g)=none
   rwa[if_neg q]
theorem Inv.made(I:Inv X pins σ H s):Inv X pins σ (upd (upd H s.heap.objs.size (.own (s.heap.objs.size+1))) (s.heap.objs.size+1) (.ins C s.heap.objs.size []))
  { s with heap:=(s.heap.push PySem.W.emptyDict).push (PySem.W.instObj C s.heap.objs.size) }:=by
 have e1:(s.heap.push PySem.W.emptyDict).get? s.heap.objs.size=some PySem.W.emptyDict:=Yl s.heap rfl;have e2:((s.heap.push PySem.W.emptyDict).push (PySem.W.instObj C s.heap.objs.size)).get? (s.heap.objs.size+1)=some (PySem.W.instObj C s.heap.objs.size):=by
  have:=Yl (s.heap.push PySem.W.emptyDict) (o:=PySem.W.instObj C s.heap.objs.size) rfl
  rwa [UH]at this
 have e3:(s.heap.push PySem.W.emptyDict).Ns s.heap.objs.size (λ_=>none):=⟨PySem.W.emptyDict,#[],_,e1,rfl,(λe he=>absurd he (by simp)),λ_=>rfl⟩;have I1:=I.laid (a:=s.heap.objs.size) (o:=.own (s.heap.objs.size+1)) (h':=s.heap.push PySem.W.emptyDict) (t':=s.toks) (λb u q=>WZ _ q) (XJ _) ⟨_,e1⟩
 refine I1.laid (a:=s.heap.objs.size+1) (o:=.ins C s.heap.objs.size []) (t':=s.toks) (λb u q=>WZ _ q) (Nat.le_of_eq (UH _ _)) ?_;have ne:s.heap.objs.size≠s.heap.objs.size+1:=Yz (OP _)
 refine⟨by rw[Za ne,XS],Yk _,ne,e2,λ_=>none,(Heap.Ns1.of_empty e3).at λo q=>WZ _ q,λ_=>True.intro,λy hy=>absurd rfl hy⟩
theorem FK{prog:Program}{w:World}{env:Env}{e:Expr}{f:Str}{pos:Pos}{s:Shared}{Q:Ae}(hb:attributeBase e f env (eval e env)=eval e env)
  (h:wpAny (model prog w) A (eval e env) (λo s₁=>wpAny (model prog w) A (getAttr o f true) Q E s₁) E s):wpAny (model prog w) A (eval (.Attribute e f pos) env) Q E s :=
 Attribute_any_ h (by rw[arm_eval_Attribute,hb])
end
def FJ(K:Ad)(ta:TE)(f:Str):TE:=λσ H Q=>ta σ H λx H1=>∃ a C dx fs v,x=.ref a/\H1 a=some (.ins C dx fs)/\Cls K C/\NoAttr K C f/\fs.lookup f=some v/\Q v H1
def vL(K:Ad)(ta tv:TE)(f:Str):TS:=λD σ H=>tv σ H λy H1=>ta σ H1 λx H2=>∃ a C dx fs,x=.ref a/\H2 a=some (.ins C dx fs)/\Cls K C/\NoAttr K C f/\fs.length<1000 /\
 D.nx σ (upd H2 a (.ins C dx (XM f y fs)))
section
variable{X:Cx}{o e value:Expr}{f:Str}{pos pos':Pos}{ta tv:TE}
theorem vK(he:PE X e ta)(hb:attributeBase e f X.env (eval e X.env)=eval e X.env):PE X (.Attribute e f pos) (FJ X.K ta f):=by intro pins s σ H Q I h;refine FK hb (thn (he pins s σ H _ I h) λu s1 Xt=>?_);obtain⟨x,H1,I1,rx,a,C,dx,fs,v,ex,ea,c,n,l,q⟩:=Xt;subst ex;obtain rfl:u=Value.ref a:=rx;exact ax I1 ea c n l λu' s2 I2 ru=>⟨v,H1,I2,ru,q⟩
theorem NF(ha:PE X o ta)(hv:PE X value tv)(hs:swapsWith value (some (.Attribute o f pos')) pos.line X.env=pure false):PS X (.Assign [.Attribute o f pos'] value pos) (vL X.K ta tv f):=by intro pins s σ H D I h;refine plainObj_wpAny_Assign_Attribute (thn (hv pins s σ H _ I h) λu s1 ⟨y,H1,I1,ry,q⟩=>thn (ha pins s1 σ H1 _ I1 q) λov s2 Xt=>?_) hs;obtain⟨x,H2,I2,rx,a,C,dx,fs,ex,ea,c,n,l,q2⟩:=Xt;subst ex;obtain rfl:ov=Value.ref a:=rx;exact aw I2 ea c n l ry λs3 I3=>⟨σ,_,I3,q2⟩
end
structure Room (k:Nat) (A:Around):Prop where
 hd:A.handled=none
 dp:A.depth+3 * k+5<recursionLimit
 un:A.units+16 * k+200<cLine
theorem Room.mono{j k:Nat}{A:Around}(r:Room k A)(h:j<=k):Room j A:=⟨r.hd,by have:=r.dp;omega,by have:=r.un;omega⟩
theorem Room.deeper{k:Nat}{A:Around}(r:Room (k+1) A)(env:Env):Room k (A.deeper env) :=
 ⟨r.hd,by have:=r.dp;show A.depth+1+3 * k+5<_;omega,by have:=r.un;show A.units+3+16 * k+200<_;omega⟩
theorem Room.in1{k:Nat}{A:Around}(r:Room (k+1) A):Room k A.in1 :=
 ⟨r.hd,by have:=r.dp;show A.depth+3 * k+5<_;omega,by have:=r.un;show A.units+1+16 * k+200<_;omega⟩
theorem av {A:Around} {C:Addr} {us:Ag} {kw:List (Str × Value)}:(A.under (.builtin "type.__call__" ⟨.ref C :: us,kw⟩)).depth=A.depth+1:=by
 first | rfl | simp[Around.under,Code.weight,Code.isCreation,Code.isGuard,Code.isCaller,Code.frames,Code.isFrame,guardIds]
theorem au {A:Around} {C:Addr} {us:Ag} {kw:List (Str × Value)}:(A.under (.builtin "type.__call__" ⟨.ref C :: us,kw⟩)).units=A.units+1:=by
 first | rfl | simp[Around.under,Code.cUnits,Code.frames,Code.isFrame]
theorem Room.make {k:Nat} {A:Around} (r:Room (k+1) A) (C:Addr) (us:Ag) (kw:List (Str × Value)):Room k (A.under (.builtin "type.__call__" ⟨.ref C :: us,kw⟩)) :=
 ⟨r.hd,by have:=r.dp;rw[av];omega,by have:=r.un;rw[au];omega⟩
theorem Room.depth{k:Nat}{A:Around}(r:Room k A):A.depth<recursionLimit:=by have:=r.dp;omega
theorem Room.units{k:Nat}{A:Around}(r:Room k A):A.units+64<cLine:=by have:=r.un;omega
def Kk:TA:=λ_ H Q=>Q [] H
def Kj(ta:TE)(tr:TA):TA:=λσ H Q=>ta σ H λx H1=>tr σ H1 λxs H2=>Q (x :: xs) H2
section
variable{X:Cx}{e:Expr}{es:List Expr}{te:TE}{t:TA}{pos:Pos}
theorem XX:PA X [] Kk:=λ_ _ _ _ H Q I h=>xh ⟨[],H,I,.nil,h⟩
theorem XY(ha:PE X e te)(hr:PA X es t)(hs:starEach (e :: es) X.env=(false,eval e X.env) :: starEach es X.env:=by rfl):PA X (e :: es) (Kj te t):=by
 intro pos pins s σ H Q I h;rw[hs];show wpAny _ _ (spliced ((false,eval e X.env) :: backTo pos (starEach es X.env))) _ _ s
 refine Kz (thn (ha pins s σ H _ I h) λu s1 Xt=>?_);obtain⟨x,H1,I1,r1,q1⟩:=Xt;exact thn (hr pos pins s1 σ H1 _ I1 q1) λus s2 ⟨xs,H2,I2,r2,q2⟩=>⟨x :: xs,H2,I2,.cons r1 r2,q2⟩
def vJ(t:TA):TE:=λσ H Q=>t σ H λxs H1=>xs.length<=sizeLine/\∀ p,H1 p=none->Q (.ref p) (upd H1 p (.tup xs))
def vH(t:TA):TE:=λσ H Q=>t σ H λxs H1=>xs.length<=sizeLine/\∀ p,H1 p=none->Q (.ref p) (upd H1 p (.lst xs))
theorem UB{x1}(h:PA X es t):PE X (.Tuple es x1 pos) (vJ t):=by
 intro pins s σ H Q I hq;refine wpAny_Tuple_spliced (thn (h pos pins s σ H _ I hq) λus s1 ⟨xs,H1,I1,r,z,q⟩=>⟨by rw[<- r.length];exact z,?_⟩);have hf:H1 s1.heap.objs.size=none:=I1.hok.fresh (XJ _)
 refine⟨.ref s1.heap.objs.size,upd H1 s1.heap.objs.size (.tup xs),I1.laid (t':=s1.toks) (λb u e=>WZ _ e) (XJ _) ?_,rfl,q _ hf⟩;exact⟨z,us,r,⟨_,Yl _ rfl,rfl,_,rfl⟩⟩
theorem UA(h:PA X es t):PE X (.List es pos) (vH t):=by
 intro pins s σ H Q I hq;refine wpAny_List_spliced (thn (h pos pins s σ H _ I hq) λus s1 ⟨xs,H1,I1,r,z,q⟩=>⟨by rw[<- r.length];exact z,?_⟩);have hf:H1 s1.heap.objs.size=none:=I1.hok.fresh (XJ _)
 refine⟨.ref s1.heap.objs.size,upd H1 s1.heap.objs.size (.lst xs),I1.laid (t':=s1.toks) (λb u e=>WZ _ e) (XJ _) ?_,rfl,q _ hf⟩;exact⟨z,us,0,r,Yl _ rfl⟩
end
abbrev Sp:=List V->Hp->VK->XK->Prop
abbrev OK:=List Env->Hp->Shared->XK->Ae
structure Env0 (P:Program) (w:World) (K:Ad) (mg:Af) (base:Heap) (A:Around) (outer:List Env) (s:Shared) (H:Hp):Prop where
 frames:A.frames=some outer
 mod:Mod K mg base
 bs:∀ b o,base.get? b=some o->s.heap.get? b=some o/\H b=none
 bsz:base.objs.size<=s.heap.objs.size
 funs:s.heap.FunFrames base outer
 frf:∀ b∈Up outer,H b=none
 hok:HOk P w H s.heap
 bare:AllBare s.gens
def CE(outer:List Env)(P:Program)(w:World)(H:Hp)(s:Shared)(Q:VK)(u:Value)(s':Shared):Prop :=
 ∃ v H',s'.os=s.os/\AllBare s'.gens/\Un (Up outer) [] H H' s.heap s'.heap/\HOk P w H' s'.heap/\RelV v u/\Q v H'
def CR(CX:OK)(outer:List Env)(P:Program)(w:World)(H:Hp)(s:Shared)(Q:VK)(E:XK)(r:Result)(s':Shared):Prop :=
 match r with
 | .ok (.ret u)=>CE outer P w H s Q u s'
 | .ok _=>False
 | .error e=>CX outer H s E e s'
structure FnOk (P:Program) (w:World) (K:Ad) (mg:Af) (base:Heap) (CX:OK) (k:Nat) (f:Addr) (fd:FuncData) (ps:List Str) (sp:Sp):Prop where
 len:∀ vs H Q E,sp vs H Q E->vs.length=ps.length
 run:∀(A:Around) (outer:List Env) (s:Shared) (H:Hp) (args:Args) (us:Ag) (vs:List V) (Q:VK) (E:XK),Room k A->Env0 P w K mg base A outer s H->BindsTo s fd args (ps.zip us)->Vals vs us->sp vs H Q E ->
  codeAny (model P w) A (.call (.ref f) args) (CR CX outer P w H s Q E) s
theorem Env0.make{P:Program}{w:World}{K:Ad}{mg:Af}{base:Heap}{A:Around}{outer:List Env}{s:Shared}{H:Hp}(e:Env0 P w K mg base A outer s H)(C:Addr)(us:Ag)(kw:List (Str × Value)) :
  Env0 P w K mg base (A.under (.builtin "type.__call__" ⟨.ref C :: us,kw⟩)) outer s H:=⟨by first | exact e.frames | (simpa [Around.under,Code.envs,Code.isFrame,pushEnvs] using e.frames),e.mod,e.bs,e.bsz,e.funs,e.frf,e.hok,e.bare⟩
theorem Env0.in1{P:Program}{w:World}{K:Ad}{mg:Af}{base:Heap}{A:Around}{outer:List Env}{s:Shared}{H:Hp}(e:Env0 P w K mg base A outer s H) :
  Env0 P w K mg base A.in1 outer s H:=⟨e.frames,e.mod,e.bs,e.bsz,e.funs,e.frf,e.hok,e.bare⟩
section
variable{X:Cx}{pins:List (Addr × Obj)}{σ:St}{H:Hp}{s s':Shared}
theorem Inv.env0(I:Inv X pins σ H s):Env0 X.prog X.w X.K X.mg X.base X.A X.stack s H :=
 ⟨I.ok.frames,I.ok.mod,I.bs,Yv I.ok.bsz I.sz,I.stack,I.stkFree,I.hok,I.bare⟩
theorem Inv.after{Q:VK}{u:Value}(I:Inv X pins σ H s)(h:CE X.stack X.prog X.w H s Q u s'):EP X pins σ Q u s':=by obtain⟨v,H',os,bare,un,hok,r,q⟩:=h;obtain⟨hh,g,d,t,vG⟩:=s';obtain rfl:vG=s.os:=os;exact⟨v,H',I.call (h':=hh) (g':=g) (d':=d) (t':=t) (ch:=[]) un hok bare (λb z=>absurd z (by simp)),r,q⟩
end
def vE(sp:Sp)(SV:List V)(E:XK)(t:TA):TE:=λσ H Q=>t σ H λvs H1=>sp (vs++SV) H1 Q E
def vD(C:Addr)(sp:Sp)(SV:List V)(E:XK)(t:TA):TE:=λσ H Q=>t σ H λvs H1=>∀ x dx,H1 x=none->H1 dx=none->dx≠x ->
 sp (.ref x :: (vs++SV)) (upd (upd H1 dx (.own x)) x (.ins C dx [])) (λv H2=>v=.non/\Q (.ref x) H2) E
def Binds(K:Ad)(fd:FuncData)(ps:List Str)(ds:Ag):Prop :=
 ∀(s:Shared) (us:Ag),K.In s.heap->(us++ds).length=ps.length->BindsTo s fd ⟨us,[]⟩ (ps.zip (us++ds))
theorem Binds.all{K:Ad}{fd:FuncData}{ps:List Str}(h:∀ us:Ag,us.length=ps.length->bindArgs fd ⟨us,[]⟩=pure (ps.zip us)):Binds K fd ps []:=λs us _ hl=>by rw[YE]at hl ⊢;exact .of_eq (h us hl)
def FI(CX:OK)(X:Cx)(E:XK):Prop:=∀(pins:List (Addr × Obj)) (σ:St) (H:Hp) (s:Shared) (e:Value) (s':Shared),Inv X pins σ H s->CX X.stack H s E e s'->X.xe e s'
section
variable{X:Cx}{CX:OK}{k:Nat}{f C:Addr}{fd:FuncData}{ps:List Str}{sp:Sp}{SV:List V}{ds:Ag}{E:XK}{x:Str}{p pos:Pos}{e:Expr}{es:List Expr}{t:TA}
theorem vC{pins:List (Addr × Obj)}{σ:St}{H:Hp}{s:Shared}{Q:VK}{us:Ag}{vs:List V}(F:FnOk X.prog X.w X.K X.mg X.base CX k f fd ps sp)(hr:Room k X.A)(hb:Binds X.K fd ps ds)(hd:Vals SV ds)(hx:FI CX X E)
  (I:Inv X pins σ H s) (r:Vals vs us) (h:sp (vs++SV) H Q E):wpAny (model X.prog X.w) X.A (call (.ref f) us) (EP X pins σ Q) X.xe s:=by
 have r2:Vals (vs++SV) (us++ds):=r.append hd;have hl:(us++ds).length=ps.length:=by rw[<- r2.length];exact F.len _ _ _ _ h
 refine Gr (KR (F.run X.A X.stack s H ⟨us,[]⟩ (us++ds) (vs++SV) Q E hr I.env0 (hb s us I.kIn hl) r2 h) λr s' hq=>?_);cases r with
 | error e=>exact hx pins σ H s e s' I hq
 | ok fl =>
  cases fl with
  | ret u=>exact I.after hq
  | next=>exact False.elim hq
  | brk=>exact False.elim hq
  | cont=>exact False.elim hq
theorem Xy(F:FnOk X.prog X.w X.K X.mg X.base CX k f fd ps sp)(hr:Room k X.A)(hg:Gl X x)(hm:X.mg x=some (.ref f))(hk:PySem.W.keepIn X.K (.ref f)=true)(hb:Binds X.K fd ps ds)(hd:Vals SV ds)(hx:FI CX X E)
  (ha:PA X (e :: es) t) (RS:(x == ("__debug__":Str))=false:=by decide) (he:starEach (e :: es) X.env=(false,eval e X.env) :: starEach es X.env:=by rfl) (UQ:(backTo pos (starEach es X.env)).any (·.1)=false:=by rfl) :
  PE X (.Call (.Name x p) (e :: es) [] pos) (vE sp SV E t):=by intro pins s σ H Q I h;refine OS (wJ I hg hm ?_ RS);refine PySem.W.callWith_K (h₀:=X.base) I.ok.mod.kin hk (thn (ha pos pins s σ H _ I h) λus s1 ⟨vs,H1,I1,r,q⟩=>⟨I1.kIn,?_⟩) he UQ;exact vC F hr hb hd hx I1 r q
structure Mk (K:Ad) (C f:Addr):Prop where
 makes:PySem.W.makesIn K C=true
 init:PySem.W.findIn K (.ref C) "__init__"=some (some (.ref f))
 fn:PySem.W.isFn K (.ref f)=true
 kp:PySem.W.keepIn K (.ref C)=true
theorem aq{pins:List (Addr × Obj)}{σ:St}{H:Hp}{s:Shared}{Q:VK}{us:Ag}{vs:List V}(M:Mk X.K C f)(F:FnOk X.prog X.w X.K X.mg X.base CX k f fd ps sp)(hr:Room (k+1) X.A)(hb:Binds X.K fd ps ds)(hd:Vals SV ds)
  (hx:FI CX X E) (I:Inv X pins σ H s) (r:Vals vs us)
  (h:∀ x dx,H x=none->H dx=none->dx≠x->sp (.ref x :: (vs++SV)) (upd (upd H dx (.own x)) x (.ins C dx [])) (λv H2=>v=.non/\Q (.ref x) H2) E) :
  wpAny (model X.prog X.w) X.A (call (.ref C) us) (EP X pins σ Q) X.xe s:=by
 have hq:=h (s.heap.objs.size+1) s.heap.objs.size (I.hok.fresh (Uq _)) (I.hok.fresh (XJ _)) (Yz (OP _));have I2:=Inv.made (C:=C) I
 have r2:Vals (V.ref (s.heap.objs.size+1) :: (vs++SV)) (Value.ref (s.heap.objs.size+1) :: (us++ds)):=.cons rfl (r.append hd);have hl:(Value.ref (s.heap.objs.size+1) :: us++ds).length=ps.length:=by have e:=r2.length;rw[F.len _ _ _ _ hq]at e;exact e.symm
 refine Gr (vN (f:=f) I.kIn M.makes M.init (VT.mp M.fn) (KR (F.run _ X.stack _ _ ⟨Value.ref (s.heap.objs.size+1) :: us,[]⟩ (Value.ref (s.heap.objs.size+1) :: (us++ds)) _ _ E (hr.make C us [])
  (I2.env0.make C us []) (hb _ (Value.ref (s.heap.objs.size+1) :: us) I2.kIn hl) r2 hq) λr s' FH=>?_))
 cases r with
 | error e=>exact hx pins σ _ _ e s' I2 FH
 | ok fl =>
  cases fl with
  | ret u =>
   obtain⟨v,H',I3,rv,ev,q3⟩:=I2.after FH;subst ev;exact⟨rv,⟨V.ref (s.heap.objs.size+1),H',I3,rfl,q3⟩⟩
  | next=>exact False.elim FH
  | brk=>exact False.elim FH
  | cont=>exact False.elim FH
theorem FG(M:Mk X.K C f)(F:FnOk X.prog X.w X.K X.mg X.base CX k f fd ps sp)(hr:Room (k+1) X.A)(hg:Gl X x)(hm:X.mg x=some (.ref C))(hb:Binds X.K fd ps ds)(hd:Vals SV ds)(hx:FI CX X E)
  (ha:PA X (e :: es) t) (RS:(x == ("__debug__":Str))=false:=by decide) (he:starEach (e :: es) X.env=(false,eval e X.env) :: starEach es X.env:=by rfl) (UQ:(backTo pos (starEach es X.env)).any (·.1)=false:=by rfl) :
  PE X (.Call (.Name x p) (e :: es) [] pos) (vD C sp SV E t):=by intro pins s σ H Q I h;refine OS (wJ I hg hm ?_ RS);refine PySem.W.callWith_K (h₀:=X.base) I.ok.mod.kin M.kp (thn (ha pos pins s σ H _ I h) λus s1 ⟨vs,H1,I1,r,q⟩=>⟨I1.kIn,?_⟩) he UQ;exact aq M F hr hb hd hx I1 r q
end
structure FnScope (N P:List Str) (sc:Scope):Prop where
 kind:sc.kind=.function
 co:sc.isCoroutine=false
 gen:sc.isGenerator=false
 nd:N.Nodup
 pre:N.take P.length=P
 par:∀ x∈P,sc.names.lookup x=some .local\/sc.names.lookup x=some .cell
 nofree:∀ y∈sc.names,y.2≠.free
theorem iu{kindOf:Str->Option NameKind}{x:Str}:∀ {binds:List (Str × Value)} {m:Af},(∀ v,(x,v)∉binds)->bindL kindOf binds m x=m x
 | [],_,_=>rfl
 | (n,v) :: r,m,h=>by
  unfold bindL;rw[iu λw hw=>h w (Yf _ hw)];split
  .have:x≠n:=by rintro rfl;exact h v Yc
   simp[this]
  .rfl
theorem ir{kindOf:Str->Option NameKind}{x:Str}:∀ {binds:List (Str × Value)} {m:Af},(∀ v,(x,v)∉binds)->bindC kindOf binds m x=m x
 | [],_,_=>rfl
 | (n,v) :: r,m,h=>by
  unfold bindC;rw[ir λw hw=>h w (Yf _ hw)];split
  .rfl
  .have:x≠n:=by rintro rfl;exact h v Yc
   simp[this]
theorem iq{kindOf:Str->Option NameKind}{x:Str}{v:Value}:∀ {P:List Str} {vs:Ag} {i:Nat} {m:Af},P.Nodup->P[i]?=some x->vs[i]?=some v->kindOf x=some .local ->
  bindL kindOf (P.zip vs) m x=some v
 | [],_,_,_,_,h,_,_=>by simp at h
 | _ :: _,[],_,_,_,_,h,_=>by simp at h
 | p :: P,w :: vs,0,m,nd,h1,h2,hk=>by
  simp at h1 h2;subst h1;subst h2;show bindL kindOf ((p,w) :: P.zip vs) m p=_
  unfold bindL;rw[iu λv hv=>(Rb.mp nd).1 (KG hv).1,if_pos hk];simp
 | p :: P,w :: vs,i+1,m,nd,h1,h2,hk=>by show bindL kindOf ((p,w) :: P.zip vs) m x=_;unfold bindL;exact iq (i:=i) (Rb.mp nd).2 (by simpa using h1) (by simpa using h2) hk
theorem ip{kindOf:Str->Option NameKind}{x:Str}{v:Value}:∀ {P:List Str} {vs:Ag} {i:Nat} {m:Af},P.Nodup->P[i]?=some x->vs[i]?=some v->kindOf x≠some .local ->
  bindC kindOf (P.zip vs) m x=some v
 | [],_,_,_,_,h,_,_=>by simp at h
 | _ :: _,[],_,_,_,_,h,_=>by simp at h
 | p :: P,w :: vs,0,m,nd,h1,h2,hk=>by
  simp at h1 h2;subst h1;subst h2;show bindC kindOf ((p,w) :: P.zip vs) m p=_
  unfold bindC;rw[ir λv hv=>(Rb.mp nd).1 (KG hv).1,if_neg hk];simp
 | p :: P,w :: vs,i+1,m,nd,h1,h2,hk=>by show bindC kindOf ((p,w) :: P.zip vs) m x=_;unfold bindC;exact ip (i:=i) (Rb.mp nd).2 (by simpa using h1) (by simpa using h2) hk
def start(N:List Str)(vs:List V):St:=vs.map some++List.replicate (N.length - vs.length) none
def SU(CX:OK)(P:Program)(w:World)(K:Ad)(mg:Af)(base:Heap)(N:List Str)(qual:Str)(scope:Scope)(f:Addr)(cd:Value)(A:Around)(outer:List Env)(s:Shared)(H:Hp)(E:XK):Cx where
 prog:=P
 w:=w
 K:=K
 mg:=mg
 base:=base
 A:=A.deeper (envOfC qual scope s.heap.objs.size f cd)
 N:=N
 s₀:=s
 H₀:=H
 env:=envOfC qual scope s.heap.objs.size f cd
 outer:=outer
 stack:=envOfC qual scope s.heap.objs.size f cd :: outer
 ex:=[]
 calm:=true
 fn:=λ_=>true
 pn:=[]
 xe:=λe s'=>wpAny (model P w) (A.deeper (envOfC qual scope s.heap.objs.size f cd)) (leaving (envOfC qual scope s.heap.objs.size f cd) e) (λ_ Tq=>CX outer H s E e Tq) (λe' Tq=>CX outer H s E e' Tq) s'
theorem ik{sc:Scope}{n:Nat}{x:Str}(h:sc.names.lookup x=some .cell):∃ c,(cellsFrom n sc.names []).lookup x=some c:=by have q:=i6 sc.names n [] (.inl h);exact xQ.mp q
theorem ak{CX:OK}{P:Program}{w:World}{K:Ad}{mg:Af}{base:Heap}{N ps:List Str}{qual:Str}{scope:Scope}{f:Addr}{cd:Value}{A:Around}{outer:List Env}{s s1:Shared}{H:Hp}{E:XK}{us:Ag}{vs:List V}
  (S:FnScope N ps scope) (hd:A.handled=none) (e0:Env0 P w K mg base A outer s H) (hl:vs.length=ps.length) (r:Vals vs us)
  (x:InCallC s s.heap.objs.size (bindL (envOfC qual scope s.heap.objs.size f cd).kindOf (ps.zip us) λ_=>none) (cellsFrom (s.heap.objs.size+1) scope.names []) (bindC (envOfC qual scope s.heap.objs.size f cd).kindOf (ps.zip us) λ_=>none) s1) :
  Inv (SU CX P w K mg base N qual scope f cd A outer s H E) [] (start N vs) H s1:=by
 have UQ:ps.length<=N.length:=by have:=Xx List.length S.pre;rw[Yj]at this;omega
 obtain⟨h1,tk,rfl,hk⟩:=x.done;have Ki:∀ b:Addr,b∉(SU CX P w K mg base N qual scope f cd A outer s H E).ex:=λb z=>absurd (show b∈([]:List Addr) from z) (by simp)
 refine⟨⟨e0.mod,S.kind,rfl,rfl,XJ _,λy z c h1 h2=>?_,λy hy=>?_,λy c _ h=>?_,λ_=>hd,Around.frames_deeper e0.frames,.inr ⟨rfl,rfl⟩,λb z=>absurd z (Ki b),e0.bs,e0.bsz,λb _ _=>Ki b,λb z=>absurd z (Ki b),e0.funs,e0.frf⟩,
  rfl,e0.bare,Un.kept hk,⟨_,x.toInCall.ns,λi y v h1 h2 h3=>?_⟩,λy c h=>⟨_,x.cell y c h⟩,e0.hok.fresh (XJ _),λy c h=>?_,λp hp=>absurd (show p∈([]:List (Addr × Obj)) from hp) (by simp),e0.hok.kept hk,?_⟩
 .exact name_of_addr x.apart (Lc h1) (Lc h2)
 .have hy:scope.names.lookup y=some .cell\/scope.names.lookup y=some .free:=hy;rcases hy with hy | hy
  .exact ik hy
  .exact absurd rfl (S.nofree _ (Lc hy))
 .exact NX (x.above y c (Lc h))
 .have hi:i<vs.length:=by
   unfold start at h2;by_cases hi:i<vs.length
   .exact hi
   .rw[Ys (by simpa using hi)]at h2;rw[AG]at h2;split at h2 <;> cases h2
  have ha:vs[i]?=some v:=by
   unfold start at h2;rw[Yu (by simpa using hi),Yn]at h2;cases e:vs[i]? with
   | none=>rw[e]at h2;cases h2
   | some a=>rw[e]at h2;cases h2;rfl
  obtain⟨u,hu,rv⟩:=r.get ha;have hp:ps[i]?=some y:=by rwa[<- S.pre,jb (by omega)]
  have ij:ps.Nodup:=by rw[<- S.pre];exact S.nd.sublist (List.take_sublist _ _)
  refine⟨u,rv,?_⟩;rcases S.par y (Xi hp) with k | k
  .exact .inl ⟨k,iq ij hp hu k⟩
  .obtain⟨c,e⟩:=ik (n:=s.heap.objs.size+1) k;refine .inr ⟨.inl k,c,e,?_⟩;have q:=x.cell y c e
   rwa[ip ij hp hu (by show scope.names.lookup y≠_;rw[k];decide)]at q
 .exact e0.hok.fresh (NX (x.above y c (Lc h)))
 .unfold start;show _=N.length
  rw[Xv,Ya,YK];omega
theorem FF{CX:OK}{P:Program}{w:World}{K:Ad}{mg:Af}{base:Heap}{k:Nat}{f:Addr}{name qual:Str}{params:Arguments}{body:List Stmt}{scope:Scope}{dV kV doc pm Xw ct oc:Value}{an od:Option Addr}
  {Um:Array (Option Value)} {N ps:List Str} {sp:Sp} (lk:K.lookup f=some ⟨oc,od,.func (PySem.W.fnOf name qual params body scope dV kV doc pm an Xw ct),Um⟩) (Tt:PySem.W.codeIn K Xw qual=true) (S:FnScope N ps scope)
  (len:∀ vs H Q E,sp vs H Q E->vs.length=ps.length)
  (TZ:∀(A:Around) (outer:List Env) (s:Shared) (H:Hp) (vs:List V) (Q:VK) (E:XK),Room k (A.deeper (envOfC qual scope s.heap.objs.size f Xw))->sp vs H Q E ->
   ∃ t,PSs (SU CX P w K mg base N qual scope f Xw A outer s H E) body t/\t { nx:=λ_ H'=>Q .non H',rt:=Q } (start N vs) H) :
  FnOk P w K mg base CX (k+1) f (PySem.W.fnOf name qual params body scope dV kV doc pm an Xw ct) ps sp:=by
 refine⟨len,λA outer s H args us vs Q E hr e0 hb r Ul=>?_⟩;have hl:=len _ _ _ _ Ul
 have KX:K.In s.heap:=e0.mod.kin.keeps λb o e=>(e0.bs b o e).1;have lim:s.heap.NoLimit:=e0.mod.nolimit.keeps λb o e=>(e0.bs b o e).1
 have FE:∀ y∈ps.zip us,scope.names.lookup y.1=some .local\/(scope.names.lookup y.1=some .cell/\((cellsFrom (s.heap.objs.size+1) scope.names []).lookup y.1).isSome=true):=λ⟨n,v⟩ hy=>by
  rcases S.par n (KG hy).1 with q | q
  .exact .inl q
  .exact .inr ⟨q,i6 _ _ _ (.inl q)⟩
 refine codeAny_call_function hr.depth (KX _ _ lk) rfl S.co S.gen rfl (PySem.W.codeRec_of KX Tt) (hb _ _ _ _ ?_);refine wpAny_newFunctionEnv_cells S.kind FE λenv he s1 x=>?_;subst he;refine⟨lim.keeps x.toInCall.keep,codeAny_func ?_⟩;obtain⟨t,ht,hq⟩:=TZ A outer s H vs Q E (hr.deeper _) Ul;have I:Inv (SU CX P w K mg base N qual scope f Xw A outer s H E) [] (start N vs) H s1:=ak S hr.hd e0 hl r x
 refine Tb (ht [] s1 (start N vs) H _ I hq) (λfl s' hs=>?_) λe s' hs=>hs;have fin:∀ {σ':St} {H':Hp} {v:V} {u:Value},Inv (SU CX P w K mg base N qual scope f Xw A outer s H E) [] σ' H' s'->RelV v u->Q v H'->CE outer P w H s Q u s' :=
  λ{σ' H' v u} J rv q=>⟨v,H',J.os,J.bare,J.base,J.hok,rv,q⟩
 cases fl with
 | ret u =>
  obtain⟨v,σ',H',J,rv,q⟩:=hs;exact fin J rv q
 | next =>
  obtain⟨σ',H',J,q⟩:=hs;exact fin (v:=V.non) (u:=Value.none) J rfl q
 | brk =>
  obtain⟨_,_,_,q⟩:=hs;exact False.elim q
 | cont =>
  obtain⟨_,_,_,q⟩:=hs;exact False.elim q
section
variable{X:Cx}{x:Str}{p pos:Pos}{e:Expr}{es:List Expr}{t:TA}{id T:String}{r:List V->Hp->VK->Prop}
def ig(r:List V->Hp->VK->Prop)(t:TA):TE:=λσ H Q=>t σ H λvs H1=>r vs H1 Q
theorem Zg (hc:VM X (.builtin id) r) (hg:Gl X x) (hm:X.mg x=none) (hv:bootBuiltins x=some (.builtin id)) (ha:PA X (e :: es) t) (hn:x≠"__name__":=by decide) (RS:(x == ("__debug__":Str))=false:=by decide)
  (he:starEach (e :: es) X.env=(false,eval e X.env) :: starEach es X.env:=by rfl) (UQ:(backTo pos (starEach es X.env)).any (·.1)=false:=by rfl):PE X (.Call (.Name x p) (e :: es) [] pos) (ig r t):=by intro pins s σ H Q I h;refine OS (QZ I hg hm hv ?_ hn RS);exact jm (thn (ha pos pins s σ H _ I h) λus s1 ⟨vs,H1,I1,r1,q1⟩=>hc pins s1 σ H1 vs us Q I1 r1 q1) he UQ
theorem Zm (hc:VM X (.type T) r) (hg:Gl X x) (hm:X.mg x=none) (hv:bootBuiltins x=some (.type T)) (ha:PA X (e :: es) t) (hn:x≠"__name__":=by decide) (RS:(x == ("__debug__":Str))=false:=by decide)
  (he:starEach (e :: es) X.env=(false,eval e X.env) :: starEach es X.env:=by rfl) (UQ:(backTo pos (starEach es X.env)).any (·.1)=false:=by rfl):PE X (.Call (.Name x p) (e :: es) [] pos) (ig r t):=by intro pins s σ H Q I h;refine OS (QZ I hg hm hv ?_ hn RS);exact Uc (thn (ha pos pins s σ H _ I h) λus s1 ⟨vs,H1,I1,r1,q1⟩=>hc pins s1 σ H1 vs us Q I1 r1 q1) he UQ
end
end L2
namespace HT
open PySem PyProof.Rows
def lexLt:Ac->Ac->Bool
 | [],[]=>false
 | [],_ :: _=>true
 | _ :: _,[]=>false
 | x :: xs,y :: ys=>if x=y then lexLt xs ys else decide (x<y)
theorem Xj(x y:Int)(xs ys:Ac):lexLt (x :: xs) (y :: ys)=if x=y then lexLt xs ys else decide (x<y):=rfl
section
variable{prog:Program}{w:World}{A:Around}{E:Ae}{s:Shared}
theorem ND{t b:Addr}{vs ws:Ag}{Q:Ae}(ht:IsTup s.heap t vs.toArray)(hb:IsTup s.heap b ws.toArray)(hv:vs≠[])
  (h1:ws=[]->Q (.ref t) s) (h2:ws≠[]->Q (.ref s.heap.objs.size) { s with heap:=s.heap.push { cls:=.type "tuple",data:=.seq (vs++ws).toArray } })
  (hsz:vs.length+ws.length<=sizeLine):wpAny (model prog w) A (binaryOp .Add (.ref t) (.ref b)) Q E s:=by
 obtain⟨⟨cls,dd,data,sl⟩,ho,hc,n,hd⟩:=id ht;obtain⟨⟨FC,HG,data2,HF⟩,Uk,VL,n2,hd2⟩:=id hb;simp only at hc hd VL hd2;subst hc hd VL hd2;have e:vs.toArray++ws.toArray=(vs++ws).toArray:=by simp
 by_cases hw:ws=[]
 .exact z8 ⟨_,ho,rfl⟩ ⟨_,Uk,rfl⟩ xg seq_tuple_add KL KO (xS _ _)
   (tuple_addW1 t b vs.toArray ws.toArray n n2 dd HG sl HF (by simpa using hv) (by simp[hw])) ⟨ho,Uk,h1 hw⟩
 .refine z8 ⟨_,ho,rfl⟩ ⟨_,Uk,rfl⟩ xg seq_tuple_add KL KO (xS _ _)
   (tuple_addW2 t b vs.toArray ws.toArray n n2 dd HG sl HF (by simpa using hv) (by simpa using hw) (by rwa[Yb,Yb])) ⟨ho,Uk,?_⟩
  rw[e];exact h2 hw
def VC(n d:Nat):Option Int->Nat
 | none=>d
 | some v=>if v<0 then (v+(n:Int)).toNat else min v.toNat n
theorem Wa(n d:Nat):VC n d none=d:=rfl
end
end HT
namespace L2
open PySem PySem.Spec PyProof.Rows
abbrev TO:=St->Hp->(Option Int->Hp->Prop)->Prop
def PO(X:Cx)(e:Option Expr)(t:TO):Prop :=
 ∀(pins:List (Addr × Obj)) (s:Shared) (σ:St) (H:Hp) (Q:Option Int->Hp->Prop),Inv X pins σ H s->t σ H Q ->
  wpAny (model X.prog X.w) X.A (evalPart e X.env) (λu s'=>∃ o H',Inv X pins σ H' s'/\IsPart u o/\Q o H') X.xe s
def vB:TO:=λ_ H Q=>Q none H
def vA(t:TE):TO:=λσ H Q=>t σ H λx H1=>∃ i,x=.int i/\Q (some i) H1
section
variable{X:Cx}{e:Expr}{te:TE}{lo hi:Option Expr}{tl th:TO}{pos p2:Pos}
theorem Qj:PO X none vB:=by intro pins s σ H Q I h;rw[evalPart_none];exact Ym ⟨none,H,I,.none,h⟩
theorem RR(h:PE X e te):PO X (some e) (vA te):=by intro pins s σ H Q I hw;rw[evalPart_some];refine thn (h pins s σ H _ I hw) λu s1 Xt=>?_;obtain⟨x,H1,I1,r1,q1⟩:=Xt;obtain⟨i,rfl,q⟩:=q1;obtain⟨t,rfl⟩:=r1;exact⟨some i,H1,I1,.int i t,q⟩
def zR(X:Cx)(r:V->Option Int->Option Int->Hp->VK->Prop):Prop :=
 ∀(pins:List (Addr × Obj)) (s:Shared) (σ:St) (H:Hp) (x:V) (v vl vu:Value) (lo hi:Option Int) (sl:Addr) (Q:VK),Inv X pins σ H s->RelV x v->s.heap.IsSliceOf sl vl vu .none->IsPart vl lo->IsPart vu hi->r x lo hi H Q ->
  ∃ T id,typeLookup (.type T) "__getitem__"=pure (some (.builtin id))/\s.TypeIs v T/\wpAny (model X.prog X.w) X.A (getItem v (.ref sl)) (EP X pins σ Q) X.xe s
def aj(r:V->Option Int->Option Int->Hp->VK->Prop)(te:TE)(tl th:TO):TE:=λσ H Q=>te σ H λx H1=>tl σ H1 λl H2=>th σ H2 λu H3=>r x l u H3 Q
theorem ZY{r:V->Option Int->Option Int->Hp->VK->Prop}(hr:zR X r)(he:PE X e te)(hl:PO X lo tl)(hu:PO X hi th):PE X (.Subscript e (.Slice lo hi none p2) pos) (aj r te tl th):=by
 intro pins s σ H Q I h;refine Subscript_ (thn (he pins s σ H _ I h) λv s1 Xt=>?_);obtain⟨x,H1,I1,r1,q1⟩:=Xt;refine wpAny_Slice (thn (hl pins s1 σ H1 _ I1 q1) λvl s2 ⟨l,H2,I2,pl,q2⟩=>thn (hu pins s2 σ H2 _ I2 q2) λvu s3 Xt=>?_);obtain⟨u,H3,I3,pu,q3⟩:=Xt;rw[evalPart_none];refine Ym ?_;have I4:Inv X pins σ H3 { s3 with heap:=s3.heap.push { cls:=.type "slice",data:=.fields #[vl,vu,.none] } }:=I3.kept (t':=s3.toks) λb ob q=>WZ _ q
 obtain⟨T,id,hT,ht,hg⟩:=hr pins { s3 with heap:=s3.heap.push { cls:=.type "slice",data:=.fields #[vl,vu,.none] } } σ H3 x v vl vu l u s3.heap.objs.size Q I4 r1 (Heap.IsSliceOf.new ..) pl pu q3;show wpAny (model X.prog X.w) X.A (subscriptTail e (.Slice lo hi none p2) v (.ref s3.heap.objs.size)) (EP X pins σ Q) X.xe { s3 with heap:=s3.heap.push { cls:=.type "slice",data:=.fields #[vl,vu,.none] } }
 exact tail_any (ops:=[.ref s3.heap.objs.size,v]) ht hT hg (by with_unfolding_all rfl)
def Xh(xs:List V)(lo hi:Option Int):List V:=(xs.drop (HT.VC xs.length 0 lo)).take (HT.VC xs.length xs.length hi - HT.VC xs.length 0 lo)
theorem vy(xs:List V)(lo hi:Option Int):(Xh xs lo hi).length<=xs.length:=by unfold Xh;rw[Yj,Wx];omega
def FA(K:Ad):R2:=λx y H Q=>∃ a b xs ys,x=.ref a/\y=.ref b/\SqT K H a xs/\SqT K H b ys/\xs≠[]/\xs.length+ys.length<=sizeLine /\
 (ys=[]->Q (.ref a) H)/\(ys≠[]->∀ p,H p=none->Q (.ref p) (upd H p (.tup (xs++ys))))
theorem Vals.nil_iff{xs:List V}{us:Ag}(r:Vals xs us):us=[]↔xs=[]:=by
 cases r with
 | nil=>simp
 | cons _ _=>simp
theorem vw:WK X (binaryOp .Add) (FA X.K):=by intro pins s σ H x y v u Q I rx ry h;obtain⟨a,b,xs,ys,rfl,rfl,ha,hb,hx,hz,q1,q2⟩:=h;cases rx;cases ry;obtain⟨XW,r1,p1,_⟩:=I.tuple ha;obtain⟨Ww,r2,p2,_⟩:=I.tuple hb;refine HT.ND p1 p2 (λz=>hx (r1.nil_iff.mp z)) (λz=>⟨.ref a,H,I,rfl,q1 (r2.nil_iff.mp z)⟩) (λz=>?_) (by rwa[<- r1.length,<- r2.length]);refine⟨.ref s.heap.objs.size,_,I.laid (t':=s.toks) (o:=.tup (xs++ys)) (λb ob q=>WZ _ q) (XJ _) ?_,rfl,q2 (λw=>z (r2.nil_iff.mpr w)) _ (I.hok.fresh (XJ _))⟩;exact⟨by rw[Xv];exact hz,_,r1.append r2,IsTup.new _ _⟩
end
def OJ(n:Nat)(i:Int):Option Nat:=if 0<=i then (if i<n then some i.toNat else none) else if -(n:Int)<=i then some (i+n).toNat else none
def Ws{α:Type}(xs:List α)(i:Int):Option α:=(OJ xs.length i).bind λj=>xs[j]?
theorem ie{n:Nat}{i:Int}{j:Nat}(h:OJ n i=some j):seqIndex? i n=some j/\j<n/\-(n:Int)<=i/\i<n:=by
 unfold OJ at h;by_cases h0:0<=i
 .rw[if_pos h0]at h;by_cases h1:i<n
  .rw[if_pos h1]at h;have e:i.toNat=j:=Yi h
   exact⟨by rw[seqIndex_of h0 h1,e],by omega,by omega,h1⟩
  .rw[if_neg h1]at h;cases h
 .rw[if_neg h0]at h;by_cases h1:-(n:Int)<=i
  .rw[if_pos h1]at h;have e:(i+n).toNat=j:=Yi h
   exact⟨by rw[seqIndex_neg (by omega) h1,e],by omega,h1,by omega⟩
  .rw[if_neg h1]at h;cases h
theorem vt{α:Type}{xs:List α}{i:Int}{v:α}(h:Ws xs i=some v):∃ j,seqIndex? i xs.length=some j/\xs[j]?=some v/\j<xs.length/\-(xs.length:Int)<=i/\i<xs.length:=by
 unfold Ws at h;cases e:OJ xs.length i with
 | none=>rw[e]at h;cases h
 | some j =>
  rw[e]at h;obtain⟨h1,h2,h3,h4⟩:=ie e;exact⟨j,h1,h,h2,h3,h4⟩
def Fz(b:Expr):Prop:=∀ o i,subscripted b false o i=operate [o,i] (getItem o i)
def HE(X:Cx)(r:R2):Prop :=
 ∀(value slice:Expr) (pins:List (Addr × Obj)) (s:Shared) (σ:St) (H:Hp) (x y:V) (v u:Value) (Q:VK),Inv X pins σ H s->RelV x v->RelV y u->r x y H Q ->
  subscripted slice false v u=operate [v,u] (getItem v u)->wpAny (model X.prog X.w) X.A (subscriptTail value slice v u) (EP X pins σ Q) X.xe s
def zQ(X:Cx)(id:String)(r:V->List V->Hp->VK->Prop):Prop :=
 ∀(pins:List (Addr × Obj)) (s:Shared) (σ:St) (H:Hp) (x:V) (xs:List V) (v:Value) (us:Ag) (Q:VK),Inv X pins σ H s->RelV x v->Vals xs us->r x xs H Q ->
  wpAny (model X.prog X.w) X.A (call (.builtin id) (v :: us)) (EP X pins σ Q) X.xe s
section
variable{X:Cx}{a b:Expr}{ta tb:TE}{pos:Pos}
theorem ZF{r:R2}(hr:HE X r)(ha:PE X a ta)(hb:PE X b tb)(hs:Fz b):PE X (.Subscript a b pos) (zW r ta tb):=by intro pins s σ H Q I h;exact Subscript_ (Kp ha hb I h λv u s2 x y H2 I2 rx ry q=>hr a b pins s2 σ H2 x y v u Q I2 rx ry q (hs _ _))
def Fy(K:Ad):R2:=λx y H Q=>∃ p xs i v,x=.ref p/\y=.int i/\SqL K H p xs/\Ws xs i=some v/\Q v H
def Fx(K:Ad):R2:=λx y H Q=>∃ p xs i v,x=.ref p/\y=.int i/\SqT K H p xs/\Ws xs i=some v/\Q v H
def vq:R2:=λx y H Q=>∃ z i c,x=.str z/\y=.int i/\z.length<=sizeLine/\Ws z.cps.toList i=some c/\Q (.str ⟨#[c]⟩) H
theorem vp:HE X (Fy X.K):=by
 intro value slice pins s σ H x y v u Q I rx ry h hs;obtain⟨p,xs,i,z,rfl,rfl,hq,he,q⟩:=h;cases rx;obtain⟨t,rfl⟩:=ry;obtain⟨XW,r,pl,hz⟩:=I.list hq;obtain⟨j,h1,h2,h3,h4,h5⟩:=vt he;obtain⟨w,ew,Kh⟩:=r.get h2;have hl:=r.length
 have hn:=Km;have fin:EP X pins σ Q w s:=⟨z,H,I,Kh,q⟩
 by_cases h0:0<=i
 .have hj:i.toNat=j:=by rw[seqIndex_of h0 h5]at h1;exact Yi h1
  exact item_listR pl.isList h0 (by omega) (by rw[hj];simpa using ew) fin hs
 .have hj:(i+(XW.toArray.size:Int)).toNat=j:=by rw[seqIndex_neg (by omega) h4]at h1;rw[Yb,<- hl];exact Yi h1
  exact subscriptTail_builtinR (x:=w) pl.isList.typeIs slot_list_getitem.lookup
   (wpAny_getItem_list_neg (Q:=λr s'=>r=w/\EP X pins σ Q r s') pl.isList (by omega) (by rw[Yb] <;> omega) (by omega) (by rw[hj];simpa using ew) ⟨rfl,fin⟩) hs
theorem vo:HE X (Fx X.K):=by
 intro value slice pins s σ H x y v u Q I rx ry h hs;obtain⟨p,xs,i,z,rfl,rfl,hq,he,q⟩:=h;cases rx;obtain⟨t,rfl⟩:=ry;obtain⟨XW,r,pl,hz⟩:=I.tuple hq;obtain⟨j,h1,h2,h3,h4,h5⟩:=vt he;obtain⟨w,ew,Kh⟩:=r.get h2;have hl:=r.length
 have hn:=Km;have fin:EP X pins σ Q w s:=⟨z,H,I,Kh,q⟩
 exact subscriptTail_builtinR (x:=w) pl.typeIs slot_tuple_getitem.lookup
  (getItem_tuple (j:=j) (Q:=λr s'=>r=w/\EP X pins σ Q r s') pl (by omega) (by omega) (by rwa[Yb,<- hl]) (by simpa using ew) ⟨rfl,fin⟩) hs
theorem vn:HE X vq:=by
 intro value slice pins s σ H x y v u Q I rx ry h hs;obtain⟨z,i,c,rfl,rfl,hz,he,q⟩:=h;obtain⟨t,rfl⟩:=rx;obtain⟨t',rfl⟩:=ry;obtain⟨j,h1,h2,h3,h4,h5⟩:=vt he;have hl:z.cps.toList.length=z.length:=by simp[Str.length]
 rw[hl]at h1 h4 h5;have hn:=Km
 exact tail_any (HP s z t) slot_str_getitem.lookup (getItem_str (c:=c) (by
  have e1:decide (i < -(2 ^ 63:Int))=false:=YT (by omega);have e2:decide (i >= 2 ^ 63)=false:=YT (by omega)
  rw[e1,e2,Bool.or_false]) (by rw[h1];simpa using h2) ⟨.str ⟨#[c]⟩,H,I.tok _,⟨_,rfl⟩,q⟩) hs
theorem ai (XW:Ag) (n j:Nat) (u:Value):Obj.mapSeq (·.setIfInBounds j u) { cls:=.type "list",data:=.seq XW.toArray n }={ cls:=.type "list",data:=.seq (XW.set j u).toArray n }:=by simp[Obj.mapSeq]
theorem Inv.lst{pins:List (Addr × Obj)}{σ:St}{H:Hp}{s:Shared}{p:Addr}{xs:List V}(I:Inv X pins σ H s)(h:H p=some (.lst xs)) :
  ∃(XW:Ag) (n:Nat),Vals xs XW/\s.heap.get? p=some { cls:=.type "list",data:=.seq XW.toArray n }/\xs.length<=sizeLine:=by obtain⟨z,XW,n,r,e⟩:=I.hok p _ h;exact⟨XW,n,r,e,z⟩
theorem Inv.lstUpd{pins:List (Addr × Obj)}{σ:St}{H:Hp}{s:Shared}{p:Addr}{xs ys:List V}{XW its':Ag}{n n':Nat}{f:Obj->Obj}(I:Inv X pins σ H s)(h:H p=some (.lst xs))
  (ho:s.heap.get? p=some { cls:=.type "list",data:=.seq XW.toArray n }) (hf:f { cls:=.type "list",data:=.seq XW.toArray n }={ cls:=.type "list",data:=.seq its'.toArray n' }) (r:Vals ys its') (hz:ys.length<=sizeLine) (t:Nat) :
  Inv X pins σ (upd H p (.lst ys)) { s with heap:=s.heap.update p f,toks:=t }:=by
 have e:(s.heap.update p f).get? p=some { cls:=.type "list",data:=.seq its'.toArray n' }:=by rw[Vp f ho (by rw[hf] <;> rfl),hf]
 refine I.write (x:=p) (e:=p) (by rw[h];trivial) (.inl rfl) (λb u hb q=>(QP _ _ (XG hb)).trans q) ⟨_,e⟩ ?_;exact⟨hz,its',n',r,e⟩
def vm:V->V->V->Hp->(Hp->Prop)->Prop:=λo i v H Q=>∃ p xs k j,o=.ref p/\i=.int k/\H p=some (.lst xs)/\OJ xs.length k=some j/\Q (upd H p (.lst (xs.set j v)))
theorem RQ:Ku X vm:=by
 intro pins s σ H o i v ov iv u Q I ro ri rv h;obtain⟨p,xs,k,j,rfl,rfl,hp,hj,q⟩:=h;cases ro;obtain⟨t,rfl⟩:=ri;obtain⟨XW,n,r,ho,hz⟩:=I.lst hp;obtain⟨h1,h2,h3,h4⟩:=ie hj;have hl:=r.length
 have hn:=Km;have I':Inv X pins σ (upd H p (.lst (xs.set j v))) { s with heap:=s.heap.update p (Obj.mapSeq (·.setIfInBounds j u)) } :=
  I.lstUpd hp ho (ai XW n j u) (r.set rv j) (by rwa[Mn]) s.toks
 by_cases h0:0<=k
 .have hk:k.toNat=j:=by rw[seqIndex_of h0 h4]at h1;exact Yi h1
  exact PySem.W.ki_setAt ho h0 (by omega) (by rwa[Yb,<- hl]) (by rw[hk];exact⟨_,I',q⟩)
 .have hk:(k+(XW.toArray.size:Int)).toNat=j:=by rw[seqIndex_neg (by omega) h3]at h1;rw[Yb,<- hl];exact Yi h1
  exact PySem.W.ki_setBack ho (by omega) (by rwa[Yb,<- hl]) (by omega) (by rw[hk];exact⟨_,I',q⟩)
theorem ah(lo hi:Option Int)(n:Nat):(sliceBounds lo hi none n).1=((HT.VC n 0 lo:Nat):Int)/\(sliceBounds lo hi none n).2.1=((HT.VC n n hi:Nat):Int)/\(sliceBounds lo hi none n).2.2=1:=by
 refine⟨?_,?_,rfl⟩
 .cases lo with
  | none=>simp[sliceBounds,HT.VC]
  | some i =>
   simp only [sliceBounds,HT.VC,Option.getD_none,show(1:Int) > 0 by decide,OO];by_cases h:i<0
   .simp only [h,OO] <;> omega
   .simp only [h,KJ] <;> omega
 .cases hi with
  | none=>simp[sliceBounds,HT.VC]
  | some i =>
   simp only [sliceBounds,HT.VC,Option.getD_none,show(1:Int) > 0 by decide,OO];by_cases h:i<0
   .simp only [h,OO] <;> omega
   .simp only [h,KJ] <;> omega
theorem ag(XW:Ag)(lo hi:Option Int):slicePick XW.toArray lo hi none=((XW.drop (HT.VC XW.length 0 lo)).take (HT.VC XW.length XW.length hi - HT.VC XW.length 0 lo)).toArray:=by obtain⟨h1,h2,h3⟩:=ah lo hi XW.toArray.size;unfold slicePick;rw[h1,h2,h3];simp only [sliceRange_one,pick_run,Yb] <;> rfl
def Fw(K:Ad):V->Option Int->Option Int->Hp->VK->Prop:=λx lo hi H Q=>∃ a xs,x=.ref a/\SqL K H a xs/\∀ p,H p=none->Q (.ref p) (upd H p (.lst (Xh xs lo hi)))
theorem vk:zR X (Fw X.K):=by
 intro pins s σ H x v vl vu lo hi sl Q I rx hs pl pu h;obtain⟨a,xs,rfl,hx,q⟩:=h;cases rx;obtain⟨XW,r,ht,hz⟩:=I.list hx;have hlen:=r.length
 refine⟨"list",_,slot_list_getitem.lookup,ht.isList.typeIs,?_⟩;refine wpAny_getItem_list_slice ht.isList hs pl pu .none (by simp) ?_ (by rw[Yb] <;> omega)
 rw[ag,<- hlen];refine⟨.ref s.heap.objs.size,_,I.laid (t':=s.toks) (o:=.lst (Xh xs lo hi)) (λb ob q=>WZ _ q) (XJ _) ?_,rfl,q _ (I.hok.fresh (XJ _))⟩;exact⟨Yv (vy xs lo hi) hz,_,0,(r.drop (HT.VC xs.length 0 lo)).take (HT.VC xs.length xs.length hi - HT.VC xs.length 0 lo),Yl _ rfl⟩
def Wn:V->Bool
 | .non=>true
 | .bl _=>true
 | .int _=>true
 | .str _=>true
 | _=>false
def Tp:V->V->Bool
 | .non,.non=>true
 | .bl a,.bl b=>a == b
 | .bl a,.int b=>(if a then 1 else 0) == b
 | .int a,.bl b=>a == (if b then 1 else 0)
 | .int a,.int b=>a == b
 | .str a,.str b=>a == b
 | _,_=>false
theorem Fv{A:Around}{s:Shared}{y x:V}{u v:Value}(ry:RelV y u)(rx:RelV x v)(fy:Wn y=true)(fx:Wn x=true):SeqAt.EqAt A s u v (Tp y x):=by
 cases y with
 | non =>
  cases ry;cases x with
  | non=>cases rx;exact SeqAt.EqAt.same _
  | bl b=>cases rx;exact SeqAt.EqAt.none_bool b
  | int b=>obtain⟨t,rfl⟩:=rx;exact SeqAt.EqAt.none_int b t
  | str b=>obtain⟨t,rfl⟩:=rx;exact SeqAt.EqAt.none_str b t
  | _=>exact absurd (show false=true from fx) Yy
 | bl a =>
  cases ry;cases x with
  | non=>cases rx;exact SeqAt.EqAt.bool_none a
  | bl b=>cases rx;exact SeqAt.EqAt.bool_bool a b
  | int b=>obtain⟨t,rfl⟩:=rx;exact SeqAt.EqAt.bool_int a b t
  | str b=>obtain⟨t,rfl⟩:=rx;exact SeqAt.EqAt.bool_str a b t
  | _=>exact absurd (show false=true from fx) Yy
 | int a =>
  obtain⟨t',rfl⟩:=ry;cases x with
  | non=>cases rx;exact SeqAt.EqAt.int_none a t'
  | bl b=>cases rx;exact SeqAt.EqAt.int_bool a t' b
  | int b=>obtain⟨t,rfl⟩:=rx;exact SeqAt.EqAt.int_int a t' b t
  | str b=>obtain⟨t,rfl⟩:=rx;exact SeqAt.EqAt.int_str a t' b t
  | _=>exact absurd (show false=true from fx) Yy
 | str a =>
  obtain⟨t',rfl⟩:=ry;cases x with
  | non=>cases rx;exact SeqAt.EqAt.str_none a t'
  | bl b=>cases rx;exact SeqAt.EqAt.str_bool a t' b
  | int b=>obtain⟨t,rfl⟩:=rx;exact SeqAt.EqAt.str_int a t' b t
  | str b=>obtain⟨t,rfl⟩:=rx;exact SeqAt.EqAt.str_str a t' b t
  | _=>exact absurd (show false=true from fx) Yy
 | _=>exact absurd (show false=true from fy) Yy
def Uj(x:V)(u:Value):Bool:=match u with
 | .none=>Tp .non x
 | .bool b=>Tp (.bl b) x
 | .int i _=>Tp (.int i) x
 | .str z _=>Tp (.str z) x
 | _=>false
theorem Fu{x y:V}{u:Value}(r:RelV y u)(f:Wn y=true):Uj x u=Tp y x:=by
 cases y with
 | non=>cases r;rfl
 | bl b=>cases r;rfl
 | int i=>obtain⟨t,rfl⟩:=r;rfl
 | str z=>obtain⟨t,rfl⟩:=r;rfl
 | _=>exact absurd (show false=true from f) Yy
theorem Qi{x:V}:∀ {xs:List V} {us:Ag},Vals xs us->xs.all Wn=true->us.any (Uj x)=xs.any λy=>Tp y x
 | _,_,.nil,_=>rfl
 | y :: xs,u :: us,.cons r t,f=>by rw[List.all_cons,Ta]at f;rw[Gz,Gz,Fu r f.1,Qi t f.2]
theorem HD{A:Around}{s:Shared}{x:V}{v:Value}(rx:RelV x v)(fx:Wn x=true):∀ {xs:List V} {us:Ag},Vals xs us->xs.all Wn=true->∀ u∈us,SeqAt.EqAt A s u v (Uj x u)
 | _,_,.nil,_=>λu hu=>by cases hu
 | y :: xs,u :: us,.cons r t,f=>λu' hu=>by
  rw[List.all_cons,Ta]at f;rcases Yh.mp hu with rfl | hu
  .rw[Fu r f.1];exact Fv r rx f.1 fx
  .exact HD rx fx t f.2 u' hu
def HC(x:V)(xs:List V):Bool:=xs.any λy=>Tp y x
def ic(K:Ad)(neg:Bool):R2:=λx y H Q=>∃ p xs,y=.ref p/\(SqL K H p xs\/SqT K H p xs)/\Wn x=true/\xs.all Wn=true/\Q (.bl (if neg then !HC x xs else HC x xs)) H
theorem vj:WK X (compareOp .In) (ic X.K false):=by
 intro pins s σ H x y v u Q I rx ry h;obtain⟨p,xs,rfl,hq,fx,fs,q⟩:=h;cases ry;rcases hq with hq | hq
 .obtain⟨XW,r,pl,hz⟩:=I.list hq;refine SeqAt.in_listAt (Uj x) pl.isList (λw hw=>HD rx fx r fs w (by simpa using hw)) ⟨.bl _,H,I,rfl,?_⟩;rwa[show XW.toArray.any (Uj x)=XW.any (Uj x) by simp,Qi r fs]
 .obtain⟨XW,r,pl,hz⟩:=I.tuple hq;refine SeqAt.in_tupleAt (Uj x) pl (λw hw=>HD rx fx r fs w (by simpa using hw)) ⟨.bl _,H,I,rfl,?_⟩;rwa[show XW.toArray.any (Uj x)=XW.any (Uj x) by simp,Qi r fs]
theorem af:WK X (compareOp .NotIn) (ic X.K true):=by
 intro pins s σ H x y v u Q I rx ry h;obtain⟨p,xs,rfl,hq,fx,fs,q⟩:=h;cases ry;rcases hq with hq | hq
 .obtain⟨XW,r,pl,hz⟩:=I.list hq;refine SeqAt.notIn_listAt (Uj x) pl.isList (λw hw=>HD rx fx r fs w (by simpa using hw)) ⟨.bl _,H,I,rfl,?_⟩;rwa[show XW.toArray.any (Uj x)=XW.any (Uj x) by simp,Qi r fs]
 .obtain⟨XW,r,pl,hz⟩:=I.tuple hq;refine SeqAt.notIn_tupleAt (Uj x) pl (λw hw=>HD rx fx r fs w (by simpa using hw)) ⟨.bl _,H,I,rfl,?_⟩;rwa[show XW.toArray.any (Uj x)=XW.any (Uj x) by simp,Qi r fs]
theorem ae:VM X (.builtin "len") (λxs H Q=>∃ p ys,xs=[.ref p]/\(SqL X.K H p ys\/SqT X.K H p ys)/\Q (.int ys.length) H):=by
 intro pins s σ H xs us Q I r h;obtain⟨p,ys,rfl,hq,q⟩:=h;obtain⟨u,rfl,rx⟩:=WJ r;cases rx;have hn:=Km
 rcases hq with hq | hq
 .obtain⟨XW,r',pl,hz⟩:=I.list hq;have hlen:=r'.length
  exact Calls.call_len_list pl.isList (by simp only [Yb] <;> omega) ⟨.int ys.length,H,I.tok _,⟨s.toks+1,by rw[Yb,hlen]⟩,q⟩
 .obtain⟨XW,r',pl,hz⟩:=I.tuple hq;have hlen:=r'.length
  exact len_tuple pl (by simp only [Yb] <;> omega) ⟨.int ys.length,H,I.tok _,⟨s.toks+1,by rw[Yb,hlen]⟩,q⟩
theorem ab:VM X (.builtin "len") (λxs H Q=>∃ z,xs=[.str z]/\z.length<=sizeLine/\Q (.int z.length) H):=by
 intro pins s σ H xs us Q I r h;obtain⟨z,rfl,hz,q⟩:=h;obtain⟨u,rfl,t,rfl⟩:=WJ r;have hn:=Km
 exact len_str (by omega) ⟨.int z.length,H,I.tok _,⟨_,rfl⟩,q⟩
theorem aa:VM X (.type "list") (λxs H Q=>∃ p ys,xs=[.ref p]/\(SqL X.K H p ys\/SqT X.K H p ys)/\∀ l,H l=none->Q (.ref l) (upd H l (.lst ys))):=by
 intro pins s σ H xs us Q I r h;obtain⟨p,ys,rfl,hq,q⟩:=h;obtain⟨u,rfl,rx⟩:=WJ r;cases rx;have fin:∀(XW:Ag),Vals ys XW->ys.length<=sizeLine->∀(h':Heap) (c':Nat),(∀ b o',s.heap.get? b=some o'->h'.get? b=some o') ->
   h'.get? s.heap.objs.size=some { cls:=.type "list",dict:=none,data:=.seq XW.toArray c',slots:=#[] }->EP X pins σ Q (.ref s.heap.objs.size) { s with heap:=h' }:=λXW r' hz h' c' kp e =>
  ⟨.ref s.heap.objs.size,_,I.laid (t':=s.toks) kp (XJ _) (show ObjOk X.prog X.w _ h' _ (.lst ys) from⟨hz,XW,c',r',e⟩),rfl,q _ (I.hok.fresh (XJ _))⟩
 rcases hq with hq | hq
 .obtain⟨XW,r',pl,hz⟩:=I.list hq;have hlen:=r'.length
  obtain⟨o,ho,hc,n,hd⟩:=pl.isList;exact call_list_seq p (.inl rfl) ho hc hd (λh' c' kp e=>fin XW r' hz h' c' kp e) (by simp only [Yb] <;> omega)
 .obtain⟨XW,r',pl,hz⟩:=I.tuple hq;have hlen:=r'.length
  obtain⟨o,ho,hc,n,hd⟩:=pl;exact call_list_seq p (.inr rfl) ho hc hd (λh' c' kp e=>fin XW r' hz h' c' kp e) (by simp only [Yb] <;> omega)
theorem ZY3:VM X (.type "tuple") (λxs H Q=>∃ p ys,xs=[.ref p]/\((SqL X.K H p ys/\∀ l,H l=none->Q (.ref l) (upd H l (.tup ys)))\/(SqT X.K H p ys/\Q (.ref p) H))):=by
 intro pins s σ H xs us Q I r h;obtain⟨p,ys,rfl,h⟩:=h;obtain⟨u,rfl,rx⟩:=WJ r;cases rx;rcases h with ⟨hq,q⟩ | ⟨hq,q⟩
 .obtain⟨XW,r',pl,hz⟩:=I.list hq;have hlen:=r'.length
  refine call_tuple_list pl.isList (λh' kp=>?_) (by simp only [Yb] <;> omega)
  have I1:Inv X pins σ H { s with heap:=h' }:=I.kept (t':=s.toks) kp;have I2:Inv X pins σ (upd H h'.objs.size (.tup ys)) { s with heap:=h'.push { cls:=.type "tuple",data:=.seq XW.toArray } } :=
   I1.laid (t':=s.toks) (λb o e=>WZ _ e) (XJ _) (show ObjOk X.prog X.w _ _ _ (.tup ys) from⟨hz,XW,r',IsTup.new _ _⟩)
  exact⟨.ref h'.objs.size,_,I2,rfl,q _ (I1.hok.fresh (XJ _))⟩
 .obtain⟨XW,r',pl,hz⟩:=I.tuple hq;exact call_tuple_same pl ⟨.ref p,H,I,rfl,q⟩
def vi(K:Ad)(T:String)(x:V)(H:Hp):Prop:=match x with
 | .str _=>T="str"
 | .int _=>T="int"
 | .ref p=>(T="list"/\∃ xs,SqL K H p xs)\/(T="tuple"/\∃ o,K.lookup p=some o/\o.cls=.type "tuple"/\o.dict=none) \/
   (T="dict"/\((∃ kvs,H p=some (.dK kvs))\/∃ kvs,H p=some (.dT kvs)))\/(T="set"/\∃ S n,H p=some (.set S n))
 | _=>False
theorem Ft{pins:List (Addr × Obj)}{σ:St}{H:Hp}{s:Shared}{T:String}{x:V}{v:Value}(I:Inv X pins σ H s)(r:RelV x v)(ty:vi X.K T x H) :
  s.TypeIs v T/\∀ a,v=.ref a->∃ ob,s.heap.get? a=some ob/\ob.dict=none:=by
 cases x with
 | str z =>
  obtain⟨t,rfl⟩:=r;cases (show T="str" from ty);exact⟨HP s z t,λ_ e=>nomatch e⟩
 | int i =>
  obtain⟨t,rfl⟩:=r;cases (show T="int" from ty);exact⟨typeIs_int s i t,λ_ e=>nomatch e⟩
 | ref p =>
  cases r;rcases ty with ⟨rfl,xs,hq⟩ | ⟨rfl,o,hk,hc,hd⟩ | ⟨rfl,hk⟩ | ⟨rfl,S,n,hk⟩
  .obtain⟨XW,_,pl,_⟩:=I.list hq;refine⟨pl.isList.typeIs,λa e=>?_⟩;cases e;obtain⟨o,n,e,c,hd,_⟩:=pl;exact⟨o,e,hd⟩
  .refine⟨⟨o,I.kIn p o hk,hc⟩,λa e=>?_⟩;cases e;exact⟨o,I.kIn _ o hk,hd⟩
  .have z:∃ o,s.heap.get? p=some o/\o.ExactDict:=by
    rcases hk with ⟨kvs,hk⟩ | ⟨kvs,hk⟩
    .obtain⟨_,_,_,_,o,_,_,e,ex,_⟩:=I.hok p _ hk;exact⟨o,e,ex⟩
    .obtain⟨_,_,_,_,o,_,_,e,ex,_⟩:=I.hok p _ hk;exact⟨o,e,ex⟩
   obtain⟨o,e,ex⟩:=z;refine⟨⟨o,e,ex.1⟩,λa e2=>?_⟩;cases e2;exact⟨o,e,ex.2.1⟩
  .obtain⟨o,_,_,_,e,ex,_⟩:=I.hok p _ hk;refine⟨⟨o,e,ex.1⟩,λa e2=>?_⟩;cases e2;exact⟨o,e,ex.2.1⟩
 | _=>exact False.elim ty
def Fs(K:Ad)(T:String)(r:V->List V->Hp->VK->Prop)(to:TE):TE:=λσ H Q=>to σ H λx H1=>vi K T x H1/\r x [] H1 Q
def ib(K:Ad)(T:String)(r:V->List V->Hp->VK->Prop)(to:TE)(t:TA):TE:=λσ H Q=>to σ H λx H1=>vi K T x H1/\t σ H1 λxs H2=>r x xs H2 Q
variable{o e:Expr}{es:List Expr}{to:TE}{t:TA}{name:Str}{apos WY:Pos}{T id:String}{r:V->List V->Hp->VK->Prop}
theorem vh (pa:PlainAttrs T) (slot:Slot T name id) (Kg:typeOf (.builtin id)=pure (.type "method_descriptor")) (hm:zQ X id r) (ho:PE X o to)
  (Vo:attributeBase o name X.env (eval o X.env)=eval o X.env:=by rfl) (Vn:(apos.endLine == WY.line)=true:=by rfl):PE X (.Call (.Attribute o name apos) [] [] WY) (Fs X.K T r to):=by intro pins s σ H Q I h;refine wpAny_Call_method0_late Vo Vn (thn (ho pins s σ H _ I h) λv s1 Xt=>?_);obtain⟨x,H1,I1,r1,ty,q1⟩:=Xt;obtain⟨h1,h2⟩:=Ft I1 r1 ty;exact⟨T,id,pa,slot,Kg,h1,h2,Calls.callWith_builtin rfl (PySem.evalArgs_none (hm pins s1 σ H1 x [] v [] Q I1 r1 .nil q1))⟩
theorem vg (pa:PlainAttrs T) (slot:Slot T name id) (Kg:typeOf (.builtin id)=pure (.type "method_descriptor")) (hm:zQ X id r) (ho:PE X o to) (ha:PA X (e :: es) t)
  (Vo:attributeBase o name X.env (eval o X.env)=eval o X.env:=by rfl)
  (Kf:((backTo WY (starEach (e :: es) X.env)).all (λx=>!x.1) && (backToKw WY (keywordEach [] X.env)).all (λx=>x.1.isSome)
   && decide ((e :: es).length+([]:List Keyword).length+(if ([]:List Keyword).isEmpty then 0 else 1)<30))=true:=by rfl)
  (Vn:(apos.endLine == WY.line)=true:=by rfl) (hs:starEach (e :: es) X.env=(false,eval e X.env) :: starEach es X.env:=by rfl) (SR:(backTo WY (starEach es X.env)).any (·.1)=false:=by rfl) :
  PE X (.Call (.Attribute o name apos) (e :: es) [] WY) (ib X.K T r to t):=by
 intro pins s σ H Q I h;refine wpAny_Call_method_late Vo Kf Vn rfl (thn (ho pins s σ H _ I h) λv s1 Xt=>?_);obtain⟨x,H1,I1,r1,ty,q1⟩:=Xt;obtain⟨h1,h2⟩:=Ft I1 r1 ty;refine⟨T,id,pa,slot,Kg,h1,h2,?_⟩;have hA:=ha WY pins s1 σ H1 _ I1 q1
 rw[hs]at hA ⊢;refine Calls.callWith_builtin (by show(false || (backTo WY (starEach es X.env)).any (·.1))=false;rw[SR] <;> rfl) (Calls.evalArgs_plain ?_)
 exact thn hA λus s2 ⟨vs,H2,I2,r2,q2⟩=>hm pins s2 σ H2 x vs v us Q I2 r1 r2 q2
end
def NC(X:Cx)(id:String)(r:V->List V->Hp->VK->Prop):Prop :=
 ∀(pins:List (Addr × Obj)) (s:Shared) (σ:St) (H:Hp) (x:V) (xs:List V) (v:Value) (us:Ag) (Q:VK),Inv X pins σ H s->RelV x v->Vals xs us->r x xs H Q ->
  wpAny (model X.prog X.w) X.A (call (.builtin id) (v :: us)) (EP X pins σ Q) X.xe s
theorem Vals.one{x:V}{us:Ag}(r:Vals [x] us):∃ u,us=[u]/\RelV x u:=by
 cases r with
 | cons a r=>cases r;exact⟨_,rfl,a⟩
theorem Vals.eraseIdx:∀ {xs:List V} {us:Ag} (i:Nat),Vals xs us->Vals (xs.eraseIdx i) (us.eraseIdx i)
 | _,_,_,.nil=>.nil
 | _,_,0,.cons _ t=>t
 | _,_,i+1,.cons r t=>.cons r (Vals.eraseIdx i t)
theorem Vals.rep{xs:List V}{us:Ag}(h:Vals xs us):∀ k:Nat,Vals (List.replicate k xs).flatten (List.replicate k us).flatten
 | 0=>.nil
 | k+1=>by rw[Lb,Lb,GG,GG];exact Vals.append h (Vals.rep h k)
theorem Fq{α:Type}:∀(l:List α) (i:Nat),(l.eraseIdx i).length<=l.length
 | [],_=>XJ _
 | _ :: _,0=>Uq _
 | _ :: r,i+1=>xw (Fq r i)
theorem g9(XW:Ag):∀(k:Nat) (acc:Ag),
  List.foldl (λx1 x2=>x1++x2) acc.toArray (List.replicate k XW.toArray)=(acc++(List.replicate k XW).flatten).toArray
 | 0,acc=>by simp
 | k+1,acc=>by
  have e:acc.toArray++XW.toArray=(acc++XW).toArray:=by simp
  have e2:(acc++XW)++(List.replicate k XW).flatten=acc++(List.replicate (k+1) XW).flatten:=by rw[Lb,GG,Rc]
  rw[<- e2,<- g9 XW k (acc++XW),<- e,Lb,Av]
section
variable{X:Cx}{pins:List (Addr × Obj)}{σ:St}{H:Hp}{s:Shared}{l:Addr}{xs ys:List V}
theorem Inv.lset{XW its':Ag}{n:Nat}{f:Array Value->Array Value}{t':Nat}(I:Inv X pins σ H s)(hH:H l=some (.lst xs))
  (e:s.heap.get? l=some { cls:=.type "list",data:=.seq XW.toArray n }) (hf:f XW.toArray=its'.toArray) (hv:Vals ys its') (hz:ys.length<=sizeLine) :
  Inv X pins σ (upd H l (.lst ys)) { s with heap:=s.heap.update l (Obj.mapSeq f),toks:=t' }:=by have q:=PySem.IsL.update e f;rw[hf]at q;refine I.write (x:=l) (e:=l) (by rw[hH];exact trivial) (.inl rfl) (λb' u hb hu=>(QP s.heap (Obj.mapSeq f) (XG hb)).trans hu) ⟨_,q⟩ ?_;exact⟨hz,its',_,hv,q⟩
theorem Inv.lnew{XW:Ag}{t':Nat}(I:Inv X pins σ H s)(hv:Vals ys XW)(hz:ys.length<=sizeLine) :
  Inv X pins σ (upd H s.heap.objs.size (.lst ys)) { s with heap:=s.heap.push { cls:=.type "list",data:=.seq XW.toArray },toks:=t' } :=
 I.laid (λ_ _ q=>WZ _ q) (XJ _) ⟨hz,XW,0,hv,Yl _ rfl⟩
theorem Inv.fresh(I:Inv X pins σ H s):H s.heap.objs.size=none:=I.hok.fresh (XJ _)
theorem Inv.lstM (I:Inv X pins σ H s) (hH:H l=some (.lst xs)):xs.length<=sizeLine/\∃(XW:Ag) (n:Nat),Vals xs XW/\xs.length=XW.length/\s.heap.get? l=some { cls:=.type "list",data:=.seq XW.toArray n }:=by obtain⟨z,XW,n,r,e⟩:=I.hok l _ hH;exact⟨z,XW,n,r,r.length,e⟩
theorem g8{n:Nat}(h:n<=sizeLine):Builtin.List.listTooLong n=false:=by unfold Builtin.List.listTooLong;exact YT (by omega)
end
section
variable{X:Cx}
def vf:V->List V->Hp->VK->Prop:=λx vs H Q=>∃ l xs y,x=.ref l/\vs=[y]/\H l=some (.lst xs)/\xs.length<sizeLine/\Q .non (upd H l (.lst (xs++[y])))
theorem LZ:NC X "list.append" vf:=by intro pins s σ H x vs v us Q I rx rv h;obtain⟨l,xs,y,rfl,rfl,hH,hz,q⟩:=h;cases rx;obtain⟨u,rfl,ru⟩:=rv.one;obtain⟨z,XW,n,r,hl,e⟩:=I.lstM hH;refine NV F.slot_list_append ⟨_,e,rfl⟩ F.entry_list_append (F.args_list_append_2 _ _) (PySem.list_append l XW.toArray n u (by rw[Yb];omega)) ⟨e,?_⟩;refine⟨.non,_,I.lset (its':=XW++[u]) hH e (by simp) (r.append (.cons ru .nil)) ?_,rfl,q⟩;rw[Xv,Yp];omega
def ve:V->List V->Hp->VK->Prop:=λx vs H Q=>∃ l b xs zs,x=.ref l/\vs=[.ref b]/\H l=some (.lst xs)/\H b=some (.lst zs)/\xs.length+zs.length<=sizeLine/\Q .non (upd H l (.lst (xs++zs)))
theorem g7:NC X "list.extend" ve:=by
 intro pins s σ H x vs v us Q I rx rv h;obtain⟨l,b,xs,zs,rfl,rfl,hH,hB,hz,q⟩:=h;cases rx;obtain⟨u,rfl,ru⟩:=rv.one;cases ru;obtain⟨z,XW,n,r,hl,e⟩:=I.lstM hH;obtain⟨z2,Ww,n2,r2,Su,e2⟩:=I.lstM hB;have hsz:XW.toArray.size+Ww.toArray.size<=sizeLine:=by rw[Yb,Yb];omega
 have Qh:¬ (!XW.toArray.isEmpty && Builtin.List.listTooLong (XW.toArray.size+Ww.toArray.size))=true:=by rw[g8 hsz,Bool.and_false];exact Yy
 refine NV F.slot_list_extend ⟨_,e,rfl⟩ F.entry_list_extend (F.args_list_extend_2 _ _)
  (AutoSeq1.list_extend_list_list_0 l XW.toArray n b Ww.toArray n2 Qh (by rw[Yb];omega) (by omega)) ⟨e,e2,?_⟩
 refine⟨.non,_,I.lset (its':=XW++Ww) hH e (by simp) (r.append r2) ?_,rfl,q⟩;rw[Xv];omega
def vd:V->List V->Hp->VK->Prop:=λx vs H Q=>∃ l xs i k y,x=.ref l/\vs=[.int i]/\H l=some (.lst xs)/\-(2 ^ 63)<=i/\i<2 ^ 63/\seqIndex? i xs.length=some k/\xs[k]?=some y/\Q y (upd H l (.lst (xs.eraseIdx k)))
theorem vc:NC X "list.pop" vd:=by
 intro pins s σ H x vs v us Q I rx rv h;obtain⟨l,xs,i,k,y,rfl,rfl,hH,h1,h2,hk,hy,q⟩:=h;cases rx;obtain⟨u,rfl,ru⟩:=rv.one;obtain⟨t,rfl⟩:=ru;obtain⟨z,XW,n,r,hl,e⟩:=I.lstM hH;obtain⟨w,hw,Kh⟩:=r.get hy;refine NV F.slot_list_pop ⟨_,e,rfl⟩ F.entry_list_pop (F.args_list_pop_2 _ _)
  (MeetsSeq.list_pop_at l XW.toArray n i t k w (fitsIndex_both h1 h2) (by rwa[Yb,<- hl]) (by rwa[<- YS]) (by rw[Yb];omega)) ⟨e,?_⟩
 refine⟨y,_,I.lset (its':=XW.eraseIdx k) hH e ?_ (r.eraseIdx k) ?_,Kh,q⟩
 .show XW.toArray.eraseIdxIfInBounds k=(XW.eraseIdx k).toArray;rw[List.eraseIdxIfInBounds_toArray]
 .have:=Fq xs k
  omega
def Fp:R2:=λx y H Q=>∃ l b xs zs,x=.ref l/\y=.ref b/\H l=some (.lst xs)/\H b=some (.lst zs)/\xs.length+zs.length<=sizeLine/\∀ p,H p=none->Q (.ref p) (upd H p (.lst (xs++zs)))
theorem Fo:WK X (binaryOp .Add) Fp:=by
 intro pins s σ H x y v u Q I rx ry h;obtain⟨l,b,xs,zs,rfl,rfl,hH,hB,hz,q⟩:=h;cases rx;cases ry;obtain⟨z,XW,n,r,hl,e⟩:=I.lstM hH;obtain⟨z2,Ww,n2,r2,Su,e2⟩:=I.lstM hB;refine PySem.P.add_list e e2 ?_ (by rw[Yb,Yb];omega);have ea:XW.toArray++Ww.toArray=(XW++Ww).toArray:=by simp
 rw[ea];exact⟨.ref _,_,I.lnew (t':=s.toks) (r.append r2) (by rw[Xv];omega),rfl,q _ I.fresh⟩
def va:R2:=λx y H Q=>∃ l k xs,x=.ref l/\y=.int k/\H l=some (.lst xs)/\-(2 ^ 63)<=k/\k<2 ^ 63/\xs.length * k.toNat<=sizeLine /\
 ∀ p,H p=none->Q (.ref p) (upd H p (.lst (List.replicate k.toNat xs).flatten))
theorem uZ{α:Type}(xs:List α)(k:Nat):(List.replicate k xs).flatten.length=k * xs.length:=by
 induction k with
 | zero=>simp
 | succ k ih=>rw[Lb,GG,Xv,ih,Nat.succ_mul,Nat.add_comm]
theorem LY:WK X (binaryOp .Mult) va:=by
 intro pins s σ H x y v u Q I rx ry h;obtain⟨l,k,xs,rfl,rfl,hH,h1,h2,hz,q⟩:=h;cases rx;obtain⟨t,rfl⟩:=ry;obtain⟨z,XW,n,r,hl,e⟩:=I.lstM hH;have hlen:XW.toArray.size * k.toNat<=sizeLine:=by rwa[Yb,<- hl]
 have uY:¬ XW.toArray.size * k.toNat > (2 ^ 63 - 1) / 8:=by
  have:(sizeLine:Nat)<=(2 ^ 63 - 1) / 8:=by decide
  omega
 have uX:¬ (!Builtin.List.listFitsIndex k)=true:=by rw[fitsIndex_both h1 h2];exact Yy
 have Qh:¬ Builtin.List.listTooLong (XW.toArray.size * k.toNat)=true:=by rw[g8 hlen];exact Yy
 have RP:List.foldl (λx1 x2=>x1++x2) #[] (List.replicate (if XW.toArray.isEmpty=true then 0 else k.toNat) XW.toArray)=(List.replicate k.toNat XW).flatten.toArray:=by
  have f0:∀ m:Nat,List.foldl (λx1 x2=>x1++x2) #[] (List.replicate m XW.toArray)=(List.replicate m XW).flatten.toArray:=λm=>by
   have:=g9 XW m []
   rwa[Mo]at this
  rw[f0];cases XW with
  | nil=>simp
  | cons a r'=>rw[if_neg (by simp)]
 refine wpAny_binaryOp_repeat_ref (T:="list") (U:="int") (by decide) ⟨_,e,rfl⟩ (λs'=>typeIs_int s' k t) noFill_list_mul F.fills_int_mul F.slot_int_rmul repeat_list F.slot_int_index.lookup
  (NV F.slot_int_rmul (typeIs_int s k t) F.entry_int_rmul (F.args_int_rmul_2 _ _) (int___rmul___int_list k t l XW.toArray n)
   ⟨e,rfl,⟨_,e,rfl⟩,NV F.slot_list_mul ⟨_,e,rfl⟩ F.entry_list_mul (F.args_list_mul_2 _ _) (AutoListH.list___mul___list_int_3 l XW.toArray n k t uX uY Qh) ⟨e,?_⟩⟩)
 rw[RP];exact⟨.ref _,_,I.lnew (t':=s.toks) (r.rep k.toNat) (by rwa[uZ,Ak]),rfl,q _ I.fresh⟩
end
section
variable{κ:Type}[DecidableEq κ]
def Wy(kvs:List (κ × V))(k:κ):Option V:=(kvs.find? λkv=>decide (kv.1=k)).map (·.2)
def putK(kvs:List (κ × V))(k:κ)(v:V):List (κ × V) :=
 if (kvs.any λkv=>decide (kv.1=k))=true then kvs.map (λkv=>if kv.1=k then (kv.1,v) else kv) else kvs++[(k,v)]
theorem Ke{p:κ × V}{r:List (κ × V)}{k:κ}(e:p.1=k):Wy (p :: r) k=some p.2:=by simp[Wy,Au,e]
theorem Kd{p:κ × V}{r:List (κ × V)}{k:κ}(e:¬ p.1=k):Wy (p :: r) k=Wy r k:=by simp[Wy,Au,e]
theorem g6(k:κ):∀ kvs:List (κ × V),(kvs.any λkv=>decide (kv.1=k))=(Wy kvs k).isSome
 | []=>rfl
 | p :: r=>by
  rw[Gz];by_cases e:p.1=k
  .simp only [Ke e,Yr e,Bool.true_or,Option.isSome_some]
  .rw[Kd e,YT e,Bool.false_or];exact g6 k r
theorem ZQ5(kvs:List (κ × V))(k:κ)(v:V):(putK kvs k v).length<=kvs.length+1:=by
 unfold putK;split
 .rw[Ya];omega
 .rw[Xv,Yt,Ub];omega
theorem Fn{kvs:List (κ × V)}{k:κ}(v:V)(h:Wy kvs k=none):putK kvs k v=kvs++[(k,v)]:=by unfold putK;rw[g6,h];exact if_neg (by decide)
theorem KV.val{kvs:List (κ × V)}{vs:List (κ × Value)}(r:KV kvs vs)(k:κ):RelO (Wy kvs k) (valueAt vs k):=by
 unfold KV at r
 induction r with
 | nil=>exact True.intro
 | @cons p q ps qs h t ih =>
  obtain⟨h1,h2⟩:=h;by_cases e:p.1=k
  .have e':q.1=k:=h1.symm.trans e;have b:valueAt (q :: qs) k=some q.2:=by simp[valueAt,Au,e']
   rwa[Ke e,b]
  .have e':¬ q.1=k:=λz=>e (h1.trans z);have b:valueAt (q :: qs) k=valueAt qs k:=by simp[valueAt,Au,e']
   rwa[Kd e,b]
theorem KV.any{kvs:List (κ × V)}{vs:List (κ × Value)}(r:KV kvs vs)(k:κ):(kvs.any λkv=>decide (kv.1=k))=vs.any λkv=>decide (kv.1=k):=by
 unfold KV at r
 induction r with
 | nil=>rfl
 | cons h t ih=>rw[Gz,Gz,ih,h.1]
theorem KV.repl{kvs:List (κ × V)}{vs:List (κ × Value)}(r:KV kvs vs)(k:κ){y:V}{u:Value}(ry:RelV y u) :
  KV (kvs.map λkv=>if kv.1=k then (kv.1,y) else kv) (vs.map λkv=>if kv.1=k then (kv.1,u) else kv):=by
 unfold KV at r ⊢
 induction r with
 | nil=>exact .nil
 | @cons p q ps qs h t ih =>
  rw[WL,WL];refine .cons ?_ ih;obtain⟨h1,h2⟩:=h;by_cases e:p.1=k
  .rw[if_pos e,if_pos (h1.symm.trans e)];exact⟨h1,ry⟩
  .rw[if_neg e,if_neg (λz=>e (h1.trans z))];exact⟨h1,h2⟩
theorem KV.put{kvs:List (κ × V)}{vs:List (κ × Value)}(r:KV kvs vs)(k:κ){y:V}{u:Value}(ry:RelV y u):KV (putK kvs k y) (stored vs k u):=by
 unfold putK stored;rw[r.any k];by_cases e:(vs.any λkv=>decide (kv.1=k))=true
 .rw[if_pos e,if_pos e];exact r.repl k ry
 .rw[if_neg e,if_neg e];exact Paired.snoc r ⟨rfl,ry⟩
theorem KV.length{kvs:List (κ × V)}{vs:List (κ × Value)}(r:KV kvs vs):kvs.length=vs.length:=Paired.length r
end
theorem uW{P:Program}{w:World}{k:Key}{u:Value}(r:RelV (kV k) u):(RU P w).is k u=true:=by
 cases k with
 | inl i=>obtain⟨t,e⟩:=(show ∃ t,u=Value.int i t from r);subst e;exact aV P w i t
 | inr x=>obtain⟨t,e⟩:=(show ∃ t,u=Value.str x t from r);subst e;exact aT P w x t
section
variable{P:Program}{w:World}{H:Hp}{h:Heap}{a:Addr}
theorem uV{u:HO}(ok:HOk P w H h)(e:Rd H a u):ObjOk P w H h a u:=e.ok ok
theorem uU{kvs:List (Key × V)}(ok:HOk P w H h)(e:Rd H a (.dK kvs)):kvs.length<=sizeLine/\(a == sysModules)=false/\∃ vs,KV kvs vs/\h.DictOf (RU P w) a vs :=
 show ObjOk P w H h a (.dK kvs) from uV ok e
theorem Qg{kvs:List (Key × V)}(ok:HOk P w H h)(e:H a=some (.dK kvs)):kvs.length<=sizeLine/\(a == sysModules)=false/\∃ vs,KV kvs vs/\h.DictOf (RU P w) a vs:=uU ok (.inl e)
end
section
variable{X:Cx}{pins:List (Addr × Obj)}{σ:St}{H:Hp}{s:Shared}{a:Addr}
theorem Inv.big(I:Inv X pins σ H s):sysModules<s.heap.objs.size:=by have h:mainGlobals<s.heap.objs.size:=(I.mod.glob.keeps I.bk).lt;exact Nat.lt_trans (by decide) h
theorem uS{h':Heap}{t':Nat}{ob:HO}(I:Inv X pins σ H s)(mu:Gq (H a))(hs:Heap.SameBut a s.heap h')(he:∃ q,h'.get? a=some q)(new:ObjOk X.prog X.w (upd H a ob) h' a ob) :
  Inv X pins σ (upd H a ob) { s with heap:=h',toks:=t' } :=
 I.write (x:=a) (e:=a) mu (.inl rfl) (λb q hb z=>(hs.2 b hb).trans z) he new
theorem Fm{P:Program}{w:World}{H':Hp}{h':Heap}{kvs:List (Key × V)}{vs:List (Key × Value)}(z:kvs.length<=sizeLine)(hd:(a == sysModules)=false)(rel:KV kvs vs)(dd:h'.DictOf (RU P w) a vs) :
  ObjOk P w H' h' a (.dK kvs):=⟨z,hd,vs,rel,dd⟩
end
theorem uR {P:Program} {w:World} {H:Hp} (h:Heap) (hb:sysModules<h.objs.size):ObjOk P w H (h.push { cls:=.type "dict",data:=.dict #[] }) h.objs.size (.dK []) :=
 ⟨Yk _,GN.mpr (XG (Yz hb)),[],.nil,Heap.DictOf.new h⟩
def uQ:TE:=λ_ H Q=>∀ p,H p=none->Q (.ref p) (upd H p (.dK []))
section
variable{X:Cx}{pos:Pos}
theorem Fl:PE X (.Dict [] [] pos) uQ:=λpins s σ H Q I h =>
 wpAny_Dict_empty ⟨.ref s.heap.objs.size,_,I.laid (a:=s.heap.objs.size) (o:=.dK []) (t':=s.toks) (λ_ _ q=>WZ _ q) (XJ _) (uR s.heap I.big),rfl,h _ (I.hok.fresh (XJ _))⟩
end
structure M1 (X:Cx) (o:Expr) (m:Str) (apos:Pos) (e:Expr) (WY:Pos):Prop where
 base:attributeBase o m X.env (eval o X.env)=eval o X.env
 few:((backTo WY (starEach [e] X.env)).all (λx=>!x.1) && (backToKw WY (keywordEach [] X.env)).all (λx=>x.1.isSome)
  && decide (([e]:List Expr).length+([]:List Keyword).length+(if ([]:List Keyword).isEmpty then 0 else 1)<30))=true
 line:(apos.endLine == WY.line)=true
 trees:backTo WY (starEach [e] X.env)=[(false,eval e X.env)]
structure M2 (X:Cx) (o:Expr) (m:Str) (apos:Pos) (e f:Expr) (WY:Pos):Prop where
 base:attributeBase o m X.env (eval o X.env)=eval o X.env
 few:((backTo WY (starEach [e,f] X.env)).all (λx=>!x.1) && (backToKw WY (keywordEach [] X.env)).all (λx=>x.1.isSome)
  && decide (([e,f]:List Expr).length+([]:List Keyword).length+(if ([]:List Keyword).isEmpty then 0 else 1)<30))=true
 line:(apos.endLine == WY.line)=true
 trees:backTo WY (starEach [e,f] X.env)=[(false,eval e X.env),(false,eval f X.env)]
end L2
namespace Att
open PySem PySem.W PySem.Calls PyProof.Rows
theorem ZY2{P:Params}{h:Heap}:∀(ns:Ac) (vs:Ag),WellAll P h vs (ns.map WData.int)->IntsAre vs ns:=by
 intro ns
 induction ns with
 | nil =>
  intro vs w;rw[List.map_nil]at w;cases w;exact .nil
 | cons n ns ih =>
  intro vs w;rw[WL]at w;cases w with
  | cons a b =>
   cases a;exact .cons _ _ (ih _ b)
theorem ZX7{l:OpenLaw}{n:Nat}(hn:l.most=some n){P:Params}{h:Heap}{args:List WData}{vals:Ag}
  (NB:l.row.toRowW.claim.pre args=true) (Kc:WellAll P h vals args) :
  ∃ a vs ns,vals=[Value.ref a]/\args=[WData.list (ns.map WData.int)]/\h.get? a=some { cls:=.type "list",data:=.seq vs.toArray }/\IntsAre vs ns/\ns.length<=n:=by
 have hsh:WShape.hasAll [] args [.list .int]=true:=(pre_splitW NB).1;have hc:l.pre.holds [] { args:=args }=true:=(pre_splitW NB).2
 obtain⟨d,r,rfl,h1,h2⟩:=hasAllW_cons hsh;obtain rfl:=hasAllW_nil h2;obtain⟨xs,rfl,h3⟩:=hasW_list h1;obtain⟨ns,rfl⟩:=items_int h3;have hlen:ns.length<=n:=by
  unfold OpenLaw.pre at hc;have h4:(WTm.not (.lt (.lit (.int (n:Int))) (.len (.arg 0)))).holds [] { args:=[.list (ns.map .int)] }=true:=by have h4:=(holds_andW hc).1;rwa[hn]at h4
  have h5:=condW_of h4 (w_not (w_lt w_lit (w_len_list (w_arg rfl))));rw[Ya]at h5;refine NQ λq=>?_;have q':(n:Int)<((ns.length:Nat):Int):=by omega
  first
   | (rw[Yr q']at h5;exact absurd h5 (by decide))
   | (simp at h5;omega)
 cases Kc with
 | cons w1 w2 =>
  cases w2;cases w1 with
  | list ho Wm=>exact⟨_,_,ns,rfl,rfl,ho,ZY2 ns _ Wm,hlen⟩
theorem uP(l:OpenLaw)(args:List WData):l.row.toRowW.claim.post args (.bool true) args=true :=
 postW_of (r:=l.row.toRowW) (X:=(true == true))
  (show WShape.has [] (.bool true) .bool=true by first | rfl | decide | simp[WShape.has,WShape.arms,WShape.armsAll])
  (show(WTm.eq .res (.lit (.bool true))).value [] { args:=args,res:=some (.bool true),after:=args }=some (.bool (true == true)) from w_eq_bool (w_res rfl) w_lit) rfl
theorem TY{l:OpenLaw}{n:Nat}{q:Program}{loose:List Str}{XP:Af->Heap->Prop}{YP:World->Heap->Prop}{d:DefRec}
  (hn:l.most=some n) (uN:d.params.defaults=[])
  (call:∀(w:World) (s₀ s₁:Shared) (mg mb:Af) (fa:Addr) (o:Obj) (pm cd doc:Value) (a:Addr) (vs:Ag) (ns:Ac),
   Ground q loose [] XP w s₀ mg mb s₁.heap->YP w s₁.heap ->
   s₁.heap.get? fa=some o->o.data=.func (docDef d.name d.params d.body d.scope pm cd doc)->s₁.heap.CodeRec cd d.name->mg d.name=some (.ref fa) ->
   s₁.heap.get? a=some { cls:=.type "list",data:=.seq vs.toArray }->IntsAre vs ns->ns.length<=n->s₁.gens=#[] ->
   codeAny (model l.prog w) callerA (.call (.ref fa) ⟨[.ref a],[]⟩) (λr s'=>r=.ok (.ret (.bool true))/\OldK s₁.heap s'.heap/\s'.os=s₁.os/\AllBare s'.gens) s₁) :
  WalkO q loose XP YP l.row.toRowW d [] (λf vs=>PySem.call f vs):=by intro w s₀ s₁ mg mb G Y fa o pm cd doc dV kV ho hd Tt hD Fj hg args vals as NB hlay hrd Kc hlo;obtain rfl:dV=.none:=Dflts.none hD uN;obtain rfl:kV=.none:=Dflts.noKw hD;obtain⟨a,vs,ns,rfl,rfl,Kb,hints,hlen⟩:=ZX7 hn NB Kc;refine enter_call (KR (call w s₀ s₁ mg mb fa o pm cd doc a vs ns G Y ho (fd_plain hd) Tt Fj Kb hints hlen hg) λr s' hq=>?_);obtain⟨rfl,h2,h3,h4⟩:=hq;exact⟨.inl ⟨.bool true,.bool true,[],rfl,λ_=>rfl,.bool true,uP l _,λ_=>⟨List.Pairwise.nil,λ_ hm=>(nomatch hm)⟩⟩,h2,h3,h4⟩
section
def ZF14(h:Heap)(L d:Addr):List (Addr × Obj):=(List.range h.objs.size).filterMap λa=>if a=L\/a=d then none else (h.get? a).map λo=>(a,o)
end
end Att
namespace L2
open PySem PySem.Spec PyProof.Rows
theorem gZ:∀ {vs:Ag} {ns:Ac},IntsAre vs ns->Vals (ns.map V.int) vs
 | _,_,.nil=>.nil
 | _,_,.cons n t h=>.cons ⟨t,rfl⟩ (gZ h)
abbrev XF{K:Ad}{h:Heap}(_:K.In h):Ad:=K
def gY(s:Stmt)(j:Nat):Stmt:=match s with
 | .ClassDef _ _ _ body _ _ _ _ _ _ _=>body.getD j (.Pass ⟨0,0,0,0⟩)
 | _=>.Pass ⟨0,0,0,0⟩
def Ka(s:Stmt):Arguments:=match s with
 | .FunctionDef _ a _ _ _ _ _ _ _ _=>a
 | _=>{ posonlyargs:=[],args:=[],vararg:=none,kwonlyargs:=[],kw_defaults:=[],kwarg:=none,defaults:=[] }
def OI(s:Stmt):List Stmt:=match s with
 | .FunctionDef _ _ b _ _ _ _ _ _ _=>b
 | _=>[]
def XD(s:Stmt):Scope:=match s with
 | .FunctionDef _ _ _ _ _ _ sc _ _ _=>sc
 | _=>{ kind:=.function,names:=[],isGenerator:=false,isCoroutine:=false }
abbrev Xg:OK:=λ_ _ _ _ _ _=>False
abbrev E0:XK:=λ_ _ _=>False
theorem Zu{X:Cx}:FI Xg X E0:=λ_ _ _ _ _ _ _ h=>h.elim
structure Fun (K:Ad) (x qual:Str) (st:Stmt) (f:Addr) (fd:FuncData):Prop where
 ex:∃(oc:Value) (od:Option Addr) (kV doc pm:Value) (an:Option Addr) (Xw ct:Value) (Um:Array (Option Value)),
  fd=PySem.W.fnOf x qual (Ka st) (OI st) (XD st) .none kV doc pm an Xw ct/\K.lookup f=some ⟨oc,od,.func fd,Um⟩/\PySem.W.codeIn K Xw qual=true
 kp:PySem.W.keepIn K (.ref f)=true
section
variable{P:Program}{w:World}{K:Ad}{mg:Af}{base:Heap}
theorem Fun.ok{x qual:Str}{st:Stmt}{f:Addr}{fd:FuncData}{N ps:List Str}{k:Nat}{sp:Sp}(F:Fun K x qual st f fd)(S:FnScope N ps (XD st))(len:∀ vs H Q E,sp vs H Q E->vs.length=ps.length)
  (TZ:∀(Xw:Value) (A:Around) (outer:List Env) (s:Shared) (H:Hp) (vs:List V) (Q:VK) (E:XK),Room k (A.deeper (envOfC qual (XD st) s.heap.objs.size f Xw))->sp vs H Q E ->
   ∃ t,PSs (SU Xg P w K mg base N qual (XD st) f Xw A outer s H E).nox (OI st) t/\t { nx:=λ_ H'=>Q .non H',rt:=Q } (start N vs) H):FnOk P w K mg base Xg (k+1) f fd ps sp:=by obtain⟨oc,od,kV,doc,pm,an,Xw,ct,Um,rfl,lk,Tt⟩:=F.ex;refine FF lk Tt S len λA outer s H vs Q E hr Ul=>?_;obtain⟨t,h,q⟩:=TZ Xw A outer s H vs Q E hr Ul;exact⟨t,h.nox,q⟩
theorem Fun.binds{x qual:Str}{st:Stmt}{f:Addr}{fd:FuncData}{ps:List Str}(F:Fun K x qual st f fd)
  (h:∀(kV doc pm:Value) (an:Option Addr) (Xw ct:Value) (us:Ag),us.length=ps.length->bindArgs (PySem.W.fnOf x qual (Ka st) (OI st) (XD st) .none kV doc pm an Xw ct) ⟨us,[]⟩=pure (ps.zip us)):Binds K fd ps []:=by obtain⟨oc,od,kV,doc,pm,an,Xw,ct,Um,rfl,lk,Tt⟩:=F.ex;exact .all (h kV doc pm an Xw ct)
theorem JZ{x qual:Str}{st:Stmt}{f:Addr}{oc:Value}{od an:Option Addr}{Um:Array (Option Value)}{kV doc pm Xw ct:Value}(l:K.lookup f=some ⟨oc,od,.func (PySem.W.fnOf x qual (Ka st) (OI st) (XD st) .none kV doc pm an Xw ct),Um⟩)
  (c:PySem.W.codeIn K Xw qual=true) (k:PySem.W.keepIn K (.ref f)=true):Fun K x qual st f (PySem.W.fnOf x qual (Ka st) (OI st) (XD st) .none kV doc pm an Xw ct):=⟨⟨oc,od,kV,doc,pm,an,Xw,ct,Um,rfl,l,c⟩,k⟩
end
section
variable{X:Cx}
theorem pv (i:Nat) {x:Str} {pos:Pos} (hN:X.N[i]?=some x:=by rfl) (hv:wU X.env.scope x:=by first | exact Or.inl rfl | exact Or.inr (Or.inl rfl) | exact Or.inr (Or.inr rfl)) (hd:(x == ("__debug__":Str))=false:=by decide)
  (Tt:(x == ("__classdict__":Str))=false:=by decide):PE X (.Name x pos) (Gj i):=wK hN hv hd Tt
end
theorem Uz{A B:Prop}(h:B):if false=true then A else B:=by rwa[if_neg Yy]
theorem Wf{A B:Prop}(h:A):if true=true then A else B:=by rwa[if_pos rfl]
theorem Fi{c A B:Prop}[Decidable c](h1:c->A)(h2:¬ c->B):if c then A else B:=by
 by_cases h:c
 .rw[if_pos h];exact h1 h
 .rw[if_neg h];exact h2 h
def Same(H H':Hp):Prop:=∀ b o,H b=some o->H' b=some o
theorem Same.refl(H:Hp):Same H H:=λ_ _ h=>h
theorem Same.trans{H H1 H2:Hp}(a:Same H H1)(b:Same H1 H2):Same H H2:=λc o h=>b c o (a c o h)
theorem Same.free{H H':Hp}(e:Same H H'){l:Addr}(h:H' l=Option.none):H l=Option.none:=by
 cases q:H l with
 | none=>rfl
 | some o =>
  rw[e l o q]at h;cases h
theorem Same.seq{K:Ad}{H H':Hp}{a:Addr}{xs:List V}(e:Same H H')(h:SqL K H a xs):SqL K H' a xs:=by
 rcases h with (h | ⟨o,h⟩) | h
 .exact .inl (.inl (e _ _ h))
 .exact .inl (.inr ⟨o,e _ _ h⟩)
 .exact .inr h
def Fh(X:Cx)(ifs:List Expr)(t:TT):Prop :=
 ∀(pins:List (Addr × Obj)) (s:Shared) (σ:St) (H:Hp) (Q:Bool->Hp->Prop),Inv X pins σ H s->t σ H Q ->
  wpAny (model X.prog X.w) X.A (forIn ifs true λc r=>if r=true then do let ok <- isTrue c X.env (eval c X.env);pure (ForInStep.yield ok) else pure (ForInStep.yield r)) (TP X pins σ Q) X.xe s
def tYes:TT:=λ_ H Q=>Q true H
theorem ZU:Fh X [] tYes:=λ_ _ _ H _ I h=>wpAny_tests_nil ⟨H,I,h⟩
theorem Wl(hc:PT X c t):Fh X [c] t:=λpins s σ H Q I h=>wpAny_tests_one (hc pins s σ H Q I h)
theorem Zv4{R:Result->Shared->Prop}{elt target iter:Expr}{scope:Scope}{pos:Pos}{it acc:Value}(J:Nat->Shared->Prop)
  (turn:∀ n s,J n s->wpAny (model prog w) A (pyNext it) (λr s1=>match r with
   | none=>R (.ok .next) s1
   | some v=>wpAny (model prog w) A (letOwnedTupleGo target it v) (λ_ s2=>wpAny (model prog w) A (assign target env v) (λ_ s3 =>
     wpAny (model prog w) A (forIn ifs true λc r=>if r=true then do let ok <- isTrue c env (eval c env);pure (ForInStep.yield ok) else pure (ForInStep.yield r)) (λok s4 =>
      if ok=true then wpAny (model prog w) A (eval elt env) (λx s5 =>
       wpAny (model prog w) A (call (.builtin "list.append") [acc,x]) (λ_ s6=>∃ m,m<n/\J m s6) (λ_ _=>False) s5) (λ_ _=>False) s4
      else ∃ m,m<n/\J m s4) (λ_ _=>False) s3) (λ_ _=>False) s2) (λ_ _=>False) s1) (λ_ _=>False) s)
  (n:Nat) (h:J n s):codeAny (model prog w) A (.compLoop (.ListComp elt [⟨target,iter,ifs,0⟩] scope pos) 0 it acc env) R s:=by
 refine codeAny_loop rfl J (λn s hI=>?_) n h;show wpAny _ A ((compTurn (.ListComp elt [⟨target,iter,ifs,0⟩] scope pos) 0 it acc env).onRaise (λx=>do noteFrame x env;theTreesLotGoes x)) _ _ s
 refine wpAny_noted ?_;rw[compTurn_list];refine XT (NP (XT (Tb (turn n s hI) (λr s1 h1=>?_) λ_ _ z=>z.elim)));cases r with
 | none=>exact Ym h1
 | some v =>
  refine XT (Tb h1 (λ_ s2 h2=>?_) λ_ _ z=>z.elim);refine XT (Tb h2 (λ_ s3 h3=>XT (Tb h3 (λok s4 h4=>?_) λ_ _ z=>z.elim)) λ_ _ z=>z.elim);cases ok with
  | false=>exact Ym ⟨rfl,h4⟩
  | true =>
   exact XT (XT (Tb h4 (λx s5 h5=>XT (Tb h5 (λ_ s6 h6=>Ym (Ym ⟨rfl,h6⟩)) λ_ _ z=>z.elim)) λ_ _ z=>z.elim))
def Ss(cells:List (Str × Addr)):List (Str × NameKind)->List (Str × Addr)->List (Str × Addr)
 | [],acc=>acc
 | (n,k) :: r,acc=>if k == .free then Ss cells r ((n,(cells.lookup n).getD 0) :: acc) else Ss cells r acc
theorem gX:∀(names:List (Str × NameKind)) (acc:List (Str × Addr)),(∀ y∈names,y.2=.free->∃ c,env.cells.lookup y.1=some c) ->
  (forIn names acc λ(x:Str × NameKind) (cs:List (Str × Addr))=>(if (x.2 == .free)=true then do let a <- cellOf env x.1;pure (ForInStep.yield ((x.1,a) :: cs)) else pure (ForInStep.yield cs):Sem (ForInStep (List (Str × Addr)))))=pure (Ss env.cells names acc)
 | [],acc,_=>rfl
 | (n,k) :: r,acc,h=>by
  have ih:=λacc=>gX r acc λy hy=>h y (Yf _ hy);rw[List.forIn_cons];unfold Ss;by_cases hk:(k == NameKind.free)=true
  .obtain⟨c,hc⟩:=h (n,k) Yc (by simpa using hk);have e:cellOf env n=pure c:=by unfold cellOf;rw[show env.cells.lookup n=some c from hc]
   simp only [hk,OO,e,pure_bind];rw[ih,show env.cells.lookup n=some c from hc];rfl
  .simp only [hk,GJ,KJ,pure_bind];exact ih acc
theorem ZE7(h:∀ y∈scope.names,y.2=.free->∃ c,env.cells.lookup y.1=some c):closureFor scope env=pure (Ss env.cells scope.names []):=by have e:=gX scope.names [] h;unfold closureFor;simp only [bind_pure]at e ⊢;exact e
theorem uM{env:Env}:∀(names:List (Str × NameKind)) (acc:List (Str × Addr)),(∀ y∈names,y.2=.free->∃ c,env.cells.lookup y.1=some c)->(∀ x c,acc.lookup x=some c->env.cells.lookup x=some c) ->
  ∀ x c,(Ss env.cells names acc).lookup x=some c->env.cells.lookup x=some c
 | [],acc,_,ha,x,c,e=>ha x c e
 | (n,k) :: r,acc,h,ha,x,c,e=>by
  unfold Ss at e;by_cases hk:(k == NameKind.free)=true
  .rw[if_pos hk]at e;obtain⟨d,hd⟩:=h (n,k) Yc (by simpa using hk);refine uM r _ (λy hy=>h y (Yf _ hy)) (λy b q=>?_) x c e;rw[Mq]at q;by_cases hy:(y == n)=true
   .rw[hy]at q;have JY:y=n:=by simpa using hy
    have HM:env.cells.lookup n=some d:=hd;rw[HM]at q;have q':d=b:=Yi q
    rw[JY,HM,q']
   .have JY:(y == n)=false:=by simpa using hy
    rw[JY]at q;exact ha y b q
  .rw[if_neg hk]at e;exact uM r acc (λy hy=>h y (Yf _ hy)) ha x c e
theorem uL:∀(names:List (Str × NameKind)) (acc:List (Str × Addr)) (x:Str),(acc.lookup x).isSome=true->((Ss cells names acc).lookup x).isSome=true
 | [],_,_,h=>h
 | (n,k) :: r,acc,x,h=>by
  unfold Ss;by_cases hk:(k == NameKind.free)=true
  .rw[if_pos hk];refine uL r _ x ?_;rw[Mq];by_cases hx:(x == n)=true
   .rw[hx];rfl
   .have Va:(x == n)=false:=by simpa using hx
    rwa[Va]
  .rw[if_neg hk];exact uL r acc x h
theorem zP:∀(names:List (Str × NameKind)) (acc:List (Str × Addr)) (x:Str),(x,NameKind.free)∈names->((Ss cells names acc).lookup x).isSome=true
 | [],_,_,h=>nomatch h
 | (n,k) :: r,acc,x,h=>by
  unfold Ss;rcases Yh.mp h with e | h
  .cases e;rw[if_pos (by rfl)];refine uL r _ _ ?_;rw[Mq];simp
  .by_cases hk:(k == NameKind.free)=true
   .rw[if_pos hk];exact zP r _ x h
   .rw[if_neg hk];exact zP r _ x h
theorem NA{env:Env}:∀ {names:List (Str × NameKind)} {x:Str} {k:NameKind},(names.map λ(n,k)=>if (k == NameKind.free && env.scope.kind == .function && env.kindOf n == some .cell) then (n,NameKind.cell) else (n,k)).lookup x=some k ->
  (k=.cell\/k=.free)->(x,NameKind.free)∈names\/(x,NameKind.cell)∈names
 | [],_,_,h,_=>by simp at h
 | (n,q) :: r,x,k,h,hk=>by
  have h':List.lookup x ((if (q == NameKind.free && env.scope.kind == .function && env.kindOf n == some .cell)=true then (n,NameKind.cell) else (n,q)) :: r.map λ(n,k)=>if (k == NameKind.free && env.scope.kind == .function && env.kindOf n == some .cell) then (n,NameKind.cell) else (n,k))=some k:=h;by_cases hc:(q == NameKind.free && env.scope.kind == .function && env.kindOf n == some .cell)=true
  .rw[if_pos hc,Mq]at h';have hq:q=.free:=by simp only [Ta,VT]at hc;exact hc.1.1
   by_cases hx:(x == n)=true
   .have Va:x=n:=by simpa using hx
    subst Va;subst hq;exact .inl Yc
   .have Va:(x == n)=false:=by simpa using hx
    rw[Va]at h';rcases NA (env:=env) h' hk with z | z
    .exact .inl (Yf _ z)
    .exact .inr (Yf _ z)
  .rw[if_neg hc,Mq]at h';by_cases hx:(x == n)=true
   .rw[hx]at h';have Va:x=n:=by simpa using hx
    subst Va;have e:q=k:=Yi h'
    subst e;rcases hk with rfl | rfl
    .exact .inr Yc
    .exact .inl Yc
   .have Va:(x == n)=false:=by simpa using hx
    rw[Va]at h';rcases NA (env:=env) h' hk with z | z
    .exact .inl (Yf _ z)
    .exact .inr (Yf _ z)
theorem uK{env:Env}:∀ {names:List (Str × NameKind)} {x:Str},names.lookup x=some .free ->
  (names.map λ(n,k)=>if (k == NameKind.free && env.scope.kind == .function && env.kindOf n == some .cell) then (n,NameKind.cell) else (n,k)).lookup x=some .cell \/
  (names.map λ(n,k)=>if (k == NameKind.free && env.scope.kind == .function && env.kindOf n == some .cell) then (n,NameKind.cell) else (n,k)).lookup x=some .free
 | [],_,h=>by simp at h
 | (n,q) :: r,x,h=>by
  show List.lookup x ((if (q == NameKind.free && env.scope.kind == .function && env.kindOf n == some .cell)=true then (n,NameKind.cell) else (n,q)) :: _)=_\/List.lookup x ((if (q == NameKind.free && env.scope.kind == .function && env.kindOf n == some .cell)=true then (n,NameKind.cell) else (n,q)) :: _)=_;rw[Mq]at h;by_cases hc:(q == NameKind.free && env.scope.kind == .function && env.kindOf n == some .cell)=true
  .rw[if_pos hc,Mq];by_cases hx:(x == n)=true
   .rw[hx];exact .inl rfl
   .have Va:(x == n)=false:=by simpa using hx
    rw[Va]at h ⊢;exact uK h
  .rw[if_neg hc,Mq];by_cases hx:(x == n)=true
   .rw[hx]at h ⊢;exact .inr h
   .have Va:(x == n)=false:=by simpa using hx
    rw[Va]at h ⊢;exact uK h
def UP(X:Cx)(N':List Str)(scope:Scope)(C:Addr)(s:Shared)(H:Hp)(fp:List Addr):Cx where
 prog:=X.prog
 w:=X.w
 K:=X.K
 mg:=X.mg
 base:=X.base
 A:=X.A
 N:=N'
 s₀:=s
 H₀:=H
 env:=compEnvC scope (Ss X.env.cells scope.names []) C X.env
 outer:=X.stack
 stack:=X.stack
 ex:=fp
 fn:=λ_=>false
 calm:=X.calm
 pn:=[]
 xe:=λ_ _=>False
def σC(o:Nat)(fr:List Nat)(σ:St):St:=List.replicate o none++fr.map λj=>(σ[j]?).join
structure CompScope (sc0:Scope) (N N':List Str) (o:Nat) (fr:List Nat) (scope:Scope):Prop where
 kind:scope.kind=.function
 nocell:(scope.names.all λy=>y.2 != .cell)=true
 loc:(scope.names.all λy=>y.2 != .local || scope.names.lookup y.1 == some .local)=true
 free:(scope.names.all λy=>y.2 != .free || sc0.names.lookup y.1 == some .cell || sc0.names.lookup y.1 == some .free)=true
 len:N'.length=o+fr.length
 sees:((List.range fr.length).all λj=>match fr[j]? with
  | none=>false
  | some y=>match N[y]? with
   | none=>false
   | some x=>N'[o+j]? == some x && scope.names.lookup x == some .free)=true
def Nz(J:It)(g:TG)(tt:TT)(te:TE)(o:Nat)(fr:List Nat)(σ:St)(H1:Hp)(Q:VK):Prop:=∃ W:Nat->Nat->List V->Hp->Prop,(∃ m,W 0 m [] H1)/\∀ i m ys H,W i m ys H ->
 (J.stop i H/\ys.length<=sizeLine/\∀ p,H p=none->Q (.ref p) (upd H p (.lst ys))) \/
 (J.go i H/\ys.length<sizeLine/\∀ x H',J.yld i H x H'->g x (σC o fr σ) H' λσ2 H2=>tt σ2 H2 λb H3=>if b=true then te σ2 H3 λy H4=>∃ m',m'<m/\W (i+1) m' (ys++[y]) H4 else ∃ m',m'<m/\W (i+1) m' ys H3)
def uJ(wi:TI)(g:TG)(tt:TT)(te:TE)(o:Nat)(fr:List Nat):TE:=λσ H Q=>wi σ H λJ H1=>Nz J g tt te o fr σ H1 Q
def Qf(o:Nat)(g:TG):Prop:=∀(x:V) (ow fr:St) (H:Hp) (Q:St->Hp->Prop),ow.length=o->g x (ow++fr) H Q->g x (ow++fr) H λσ2 H2=>(∃ Fg,Fg.length=o/\σ2=Fg++fr)/\Q σ2 H2
theorem Zp(h:i<o):Qf o (SY i):=λx ow fr H Q hl q=>⟨⟨ow.set i (some x),by rw[Mn];exact hl,by rw[List.set_append_left _ _ (by lia)]⟩,q⟩
def Ny(o:Nat)(g:Qp):Prop:=∀(xs:List V) (ow fr:St) (H:Hp) (Q:St->Hp->Prop),ow.length=o->g xs (ow++fr) H Q->g xs (ow++fr) H λσ2 H2=>(∃ Fg,Fg.length=o/\σ2=Fg++fr)/\Q σ2 H2
theorem Ff:Ny o Gh:=λ_ ow _ _ _ hl ⟨e,q⟩=>⟨e,⟨ow,hl,rfl⟩,q⟩
theorem OH(h:i<o)(h2:Ny o u):Ny o (Gg (SY i) u):=by
 rintro xs ow fr H Q hl ⟨v,r,rfl,q⟩;refine⟨v,r,rfl,?_⟩;have q':u r ((ow++fr).set i (some v)) H Q:=q
 show u r ((ow++fr).set i (some v)) H _;rw[List.set_append_left _ _ (by omega)]at q' ⊢;exact h2 r (ow.set i (some v)) fr H Q (by rwa[Mn]) q'
theorem Fe{K:Ad}{o n:Nat}{u:Qp}(h:Ny o u):Qf o (Kt K n u):=by rintro x ow fr H Q hl ⟨a,xs,rfl,hs,hn,q⟩;exact⟨a,xs,rfl,hs,hn,h xs ow fr H Q hl q⟩
section
variable{X:Cx}{pins:List (Addr × Obj)}{σ:St}{H:Hp}{s:Shared}{N':List Str}{o:Nat}{fr:List Nat}{scope:Scope}{fp:List Addr}
abbrev UO (us:Ag):Obj:={ cls:=.type "list",data:=.seq us.toArray us.length }
theorem CompScope.nocell'(S:CompScope sc0 N N' o fr scope):∀ y∈scope.names,y.2≠.cell:=λy hy e=>by have q:=Sb.mp S.nocell y hy;rw[e]at q;exact absurd q (by decide)
theorem CompScope.loc'(S:CompScope sc0 N N' o fr scope):∀ y∈scope.names,y.2=.local->scope.names.lookup y.1=some .local:=λy hy e=>by have q:=Sb.mp S.loc y hy;rw[e]at q;simpa using q
theorem CompScope.free'(S:CompScope sc0 N N' o fr scope)(hs:X.env.scope=sc0):∀ y∈scope.names,y.2=.free->X.env.kindOf y.1=some .cell\/X.env.kindOf y.1=some .free:=λy hy e=>by
 have q:=Sb.mp S.free y hy;rw[e]at q;show X.env.scope.names.lookup y.1=_\/X.env.scope.names.lookup y.1=_
 rw[hs];simpa using q
theorem CompScope.sees'(S:CompScope sc0 N N' o fr scope):∀ j y,fr[j]?=some y->∃ x,N[y]?=some x/\N'[o+j]?=some x/\scope.names.lookup x=some .free:=λj y e=>by
 have hj:j<fr.length:=(Xm.mp e).1;have q:=Sb.mp S.sees j (YI.mpr hj)
 rw[e]at q;dsimp only at q;cases ex:N[y]? with
 | none=>rw[ex]at q;cases q
 | some x =>
  rw[ex]at q;dsimp only at q;rw[Ta,VT,VT]at q;exact⟨x,rfl,q.1,q.2⟩
theorem CompScope.cells(S:CompScope sc0 N0 N' o fr scope)(hs:X.env.scope=sc0)(I:Inv X pins σ H s):∀ y∈scope.names,y.2=.free->∃ c,X.env.cells.lookup y.1=some c:=λy hy e=>I.ok.has y.1 (S.free' hs y hy e)
theorem CompScope.sub(S:CompScope sc0 N0 N' o fr scope)(hs:X.env.scope=sc0)(I:Inv X pins σ H s):∀ x c,(Ss X.env.cells scope.names []).lookup x=some c->X.env.cells.lookup x=some c :=
 uM (env:=X.env) scope.names [] (S.cells hs I) (λ_ _ z=>nomatch z)
theorem Inv.block(S:CompScope sc0 N0 N' o fr scope)(hs:X.env.scope=sc0)(hN:X.N=N0)(I:Inv X pins σ H s)(hf:∀ b∈fp,FpOk X pins H b)(OG:∀ b∈fp,b<s.heap.objs.size){h1:Heap}{C D:Addr}{m:Af}{t:Nat}
  (hC:s.heap.objs.size<=C) (hD:s.heap.objs.size<=D) (OF:D≠C)
  (old:∀ b ob,s.heap.get? b=some ob->h1.get? b=some ob) (hn:h1.Ns C m) (ha:h1.get? D=some (UO us)):Inv (UP X N' scope C s H fp) [(D,UO us)] (σC o fr σ) H { s with heap:=h1,toks:=t }:=by
 have sub:=S.sub hs I;have frC:∀ b∈Up X.stack,b<s.heap.objs.size:=λb hb=>by obtain⟨_,ob,ho,_⟩:=I.stack.mem hb;exact Yq ho
 refine⟨⟨I.ok.mod,S.kind,I.ok.glob,I.ok.blt,hC,λx y c h1 h2=>I.ok.inj x y c (sub x c h1) (sub y c h2),λx hx=>?_,λx c hfx _=>(nomatch hfx),I.ok.hd,I.ok.frames,.inl rfl,λb hb=>?_,I.bs,Yv I.ok.bsz I.sz,λb ob e hb=>?_,λb hb Qe=>?_,I.stack,I.stkFree⟩,
  rfl,I.bare,Un.kept old,⟨m,hn,λi x v e1 e2 e3=>?_⟩,λx c e=>?_,I.hok.fresh hC,λx c e=>I.freeC x c (sub x c e),λp hp=>?_,I.hok.kept old,?_⟩
 .have Va:(relabel scope X.env).names.lookup x=some .cell\/(relabel scope X.env).names.lookup x=some .free:=hx;have key:(x,NameKind.free)∈scope.names:=by
   rcases Va with z | z
   .rcases NA (env:=X.env) z (.inl rfl) with q | q
    .exact q
    .exact absurd rfl (S.nocell' _ q)
   .rcases NA (env:=X.env) z (.inr rfl) with q | q
    .exact q
    .exact absurd rfl (S.nocell' _ q)
  exact xQ.mp (zP (cells:=X.env.cells) scope.names [] x key)
 .obtain⟨f0,f1,f2,f3,f4,f5⟩:=hf b hb;exact⟨Yz (Yw (OG b hb) hC),λx c e=>f4 x c (sub x c e)⟩
 .obtain⟨f0,f1,f2,f3,f4,f5⟩:=hf b hb;rcases f3 with z | z
  .exact I.ok.noex b ob e z
  .exact absurd (Yw (Yq e) (Yv I.ok.bsz z)) (RZ _)
 .obtain⟨f0,f1,f2,f3,f4,f5⟩:=hf b hb;rcases Yh.mp (I.stkSub b Qe) with z | z
  .exact f1 z
  .exact f2 z
 .unfold σC at e2;by_cases hi:i<o
  .rw[Yu (by rwa[YK]),AG,if_pos hi]at e2;cases e2
  .rw[Ys (by rw[YK];exact Nat.not_lt.mp hi),YK,Yn]at e2;cases hy:fr[i - o]? with
   | none=>rw[hy]at e2;cases e2
   | some y =>
    rw[hy]at e2;have zN:(σ[y]?).join=some v:=Yi e2
    have e3':σ[y]?=some (some v):=by
     cases q:σ[y]? with
     | none=>rw[q]at zN;cases zN
     | some z=>rw[q]at zN;exact Xx some zN
    obtain⟨x',s2,s1,s3⟩:=S.sees' (i - o) y hy;rw[<- hN]at s2;rw[show o+(i - o)=i by grind]at s1;have ex:x=x':=by have e1':N'[i]?=some x:=e1;rw[e1']at s1;exact Yi s1
    subst ex;have hmem:=Lc s3
    obtain⟨m0,_,hl⟩:=I.loc;have hk:=S.free' hs (x,.free) hmem rfl
    obtain⟨u,ru,lk⟩:=hl y x v s2 e3' (by rcases hk with z | z;exact .inr (.inl z);exact .inr (.inr z));refine⟨u,ru,.inr ⟨uK (env:=X.env) s3,?_⟩⟩;obtain⟨c',Wz⟩:=xQ.mp (zP (cells:=X.env.cells) scope.names [] x hmem);refine⟨c',Wz,?_⟩;rcases lk with ⟨z,_⟩ | ⟨_,c,e,ob,ho,hd⟩
    .rcases hk with z' | z'
     .rw[z]at z';cases z'
     .rw[z]at z';cases z'
    .have ec:c=c':=by
      have:=sub x c' Wz
      rw[e]at this;exact Yi this
     subst ec;exact⟨ob,old _ _ ho,hd⟩
 .obtain⟨v,ob,ho,hd⟩:=I.cell x c (sub x c e);exact⟨v,ob,old _ _ ho,hd⟩
 .have e:p=(D,UO us):=by simpa using (show p∈([]:List (Addr × Obj))++[(D,UO us)] from hp)
  subst e;refine⟨ha,I.hok.fresh hD,OF,λz=>absurd (Yw (frC D z) hD) (RZ _),λv z=>nomatch z⟩
 .show(σC o fr σ).length=N'.length;unfold σC;rw[Xv,YK,Ya,S.len]
theorem Inv.unblock(I:Inv X pins σ H s)(hf:∀ b∈fp,FpOk X pins H b){σ':St}{s':Shared}(hC:s.heap.objs.size<=C)(hD:s.heap.objs.size<=D)(OF:D≠C)
  (I':Inv (UP X N' scope C s H fp) [(D,UO us)] σ' H' s') (r:Vals ys us) (hz:ys.length<=sizeLine):∃ oC m,s'.heap.get? C=some oC/\s'.heap.Ns C m/\Inv X (pins++[(C,oC)]) σ (upd H' D (.lst ys)) s':=by
 obtain⟨aD,nD,_,_,_⟩:=I'.pin (D,UO us) (by simp);have aD:s'.heap.get? D=some (UO us):=aD
 have nD:H' D=none:=nD;have un:Un (Up X.stack) fp H H' s.heap s'.heap:=I'.base
 have lt:∀ b u,H b=some u->b≠D:=λb u e=>Yz (Yw (I.hok.lt e) hD);have UZ:Un (Up X.stack) fp H (upd H' D (.lst ys)) s.heap s'.heap:=by
  refine⟨un.keep,un.slot,λb ob e n hx=>?_,un.there,λb xs e=>?_,λb ob u e=>?_,λb ps e=>?_⟩
  .rw[Za (Yz (Yw (Yq e) hD))];exact un.free b ob e n hx
  .rw[Za (lt b _ e)];exact un.tups b xs e
  .rw[Za (lt b _ e)];exact un.frzs b ob u e
  .obtain⟨more,q⟩:=un.tbls b ps e;exact⟨more,by rwa[Za (lt b _ e)]⟩
 have hok:HOk X.prog X.w (upd H' D (.lst ys)) s'.heap:=λb u e=>by
  by_cases hb:b=D
  .subst hb;rw[XS]at e;cases e;exact⟨hz,us,us.length,r,aD⟩
  .rw[Za hb]at e;exact(I'.hok b u e).stay (λc v _ q=>q) (λc q=>by rwa[Za (Zb q nD)]) λc xs q=>by rwa[Za (Zb q nD)]
 have os:s'.os=s.os:=I'.os;have J:Inv X pins σ (upd H' D (.lst ys)) s':=I.call' (ch:=fp) os UZ hok I'.bare λb hb=>by obtain⟨f0,f1,f2,f3,f4,f5⟩:=hf b hb;exact⟨f3,f1,f4,f5⟩
 obtain⟨m,hn,_⟩:=I'.loc;have hn:s'.heap.Ns C m:=hn
 obtain⟨oC,es,ep,uH,hdC,_⟩:=id hn;refine⟨oC,m,uH,hn,J.pins_of λp hp=>?_⟩;rcases Xr.mp hp with z | z
 .exact J.pin p (Yg _ z)
 .have e:p=(C,oC):=by simpa using z
  subst e;have nC:H' C=none:=I'.free
  refine⟨uH,by rw[Za (XG OF)];exact nC,RY (Yw I.lt hC),I.nofs hC,λv z=>?_⟩;have z':oC.data=.cell v:=z
  rw[hdC]at z';cases z'
end
section
variable{X:Cx}{N':List Str}{o:Nat}{fr:List Nat}{scope:Scope}{elt tg iter:Expr}{ifs:List Expr}{pos:Pos}{wi:TI}{g:TG}{tt:TT}{te:TE}
theorem Fd(hc:X.calm=true)(S:CompScope sc0 N0 N' o fr scope)(hi:PI X tg iter wi)(ho:Qf o g)
  (hg:∀(C:Addr) (s:Shared) (H:Hp) (fp:List Addr),PG (UP X N' scope C s H fp) tg g)
  (ht:∀(C:Addr) (s:Shared) (H:Hp) (fp:List Addr),Fh (UP X N' scope C s H fp) ifs tt)
  (he:∀(C:Addr) (s:Shared) (H:Hp) (fp:List Addr),PE (UP X N' scope C s H fp) elt te)
  (hs:∀ x,foldedSetIterable iter X.env x=pure x) (QW:X.env.scope=sc0) (Fc:X.N=N0) (I:Inv X pins σ H s) (h:uJ wi g tt te o fr σ H Qv)
  {use:Option (Value->Sem Unit)} {Q:Ae} {E:Ae}
  (hE:∀ e s',X.xe e s'->E e s')
  (fin:∀(C oC D:_) (m:Af) (H':Hp) (ys:List V) (s':Shared),Inv X (pins++[(C,oC)]) σ (upd H' D (.lst ys)) s'->Qv (.ref D) (upd H' D (.lst ys))->s'.heap.Ns C m->H' C=none->C≠D ->
   C≠X.env.locals->X.s₀.heap.objs.size<=C->(∀ x c,X.env.cells.lookup x=some c->c≠C)->(∀ p∈X.pn++pins,p.1≠C)->compPost (model X.prog X.w) X.A E use Q (.ref D) C (.ok .next) s') :
  wpAny (model X.prog X.w) X.A (comprehension (.ListComp elt [⟨tg,iter,ifs,0⟩] scope pos) scope X.env (firstIterPos [⟨tg,iter,ifs,0⟩] pos) (newList []) false (eval iter X.env) use) Q E s:=by
 refine wpAny_comprehension_free (use:=use) rfl hs (ZE7 (S.cells QW I)) S.kind S.loc' (Tb (hi pins s σ H _ I h) (λxv s1 h1=>Tb h1 (λwc s2 h2=>?_) hE) hE);obtain⟨it,fp,tn,J,H2,rfl,I2,T,NI,f2,W,⟨m0,w0⟩,turn⟩:=h2;have OG:∀ b∈fp,b<s2.heap.objs.size:=λb hb=>by obtain⟨ob,e,_⟩:=T.obj 0 _ NI b hb;exact Yq e
 refine Mr (wpAny_newFunctionEnv S.nocell' (by intro y hy;simp at hy) (λh1 JX Nx=>?_) S.kind);dsimp only at JX Nx ⊢;generalize uG:s2.heap.push { cls:=.type "list",dict:=none,data:=.seq ([]:Ag).toArray }=G at JX Nx ⊢;have gW:G.objs.size=s2.heap.objs.size+1:=by rw[<- uG,UH]
 have hC:s2.heap.objs.size<=G.objs.size:=by rw[gW];exact Uq _
 have OF:s2.heap.objs.size≠G.objs.size:=by rw[gW];exact Yz (OP _)
 have old:∀ b ob,s2.heap.get? b=some ob->h1.get? b=some ob:=λb ob e =>
  Nx.extBut b ob (Yz (Yw (Yq e) hC)) (WZ _ (uG ▸ WZ _ e))
 have Uy:h1.get? s2.heap.objs.size=some (UO []):=Nx.extBut _ _ OF (WZ _ (uG ▸ Yl _ rfl));have JW:tn 0 h1:=T.keep _ _ _ NI λb _ ob e=>old b ob e
 have uE:∀ {us:Ag} {H':Hp},(∀ b∈fp,H' b=none)->∀ b∈fp,FpOk (UP X N' scope G.objs.size s2 H2 fp) [(s2.heap.objs.size,UO us)] H' b:=λ{us H'} hn b hb=>by
  obtain⟨f0,f1,f3,f4,f5,f6⟩:=f2 b hb;refine⟨hn b hb,Yz (Yw (OG b hb) hC),λz=>?_,.inl hb,λx c e=>f5 x c (S.sub QW I2 x c e),λp hp=>?_⟩
  .rcases Yh.mp (I2.stkSub b z) with q | q
   .exact f1 q
   .exact f3 q
  .have e:p=(s2.heap.objs.size,UO us):=by simpa using (show p∈([]:List (Addr × Obj))++[(s2.heap.objs.size,UO us)] from hp)
   subst e;exact RY (OG b hb)
 have loop:∀ s3:Shared,s3={ s2 with heap:=h1,toks:=s2.toks+([]:List (Str × Value)).length } ->
   codeAny (model X.prog X.w) X.A (.compLoop (.ListComp elt [⟨tg,iter,ifs,0⟩] scope pos) 0 (.ref it) (.ref s2.heap.objs.size) (compEnvC scope (Ss X.env.cells scope.names []) G.objs.size X.env))
    (compPost (model X.prog X.w) X.A E use Q (.ref s2.heap.objs.size) G.objs.size) s3:=by
  rintro s3 rfl;refine Zv4 (λn s'=>∃ i σ' H' ys us,Inv (UP X N' scope G.objs.size s2 H2 fp) [(s2.heap.objs.size,UO us)] σ' H' s'/\σ'=σC o fr σ/\Vals ys us/\tn i s'.heap/\(∀ b∈fp,H' b=none)/\W i n ys H') ?_ m0
   ⟨0,_,H2,[],[],I2.block S QW Fc f2 OG hC (XJ _) OF old JX Uy,rfl,.nil,JW,λb hb=>(f2 b hb).1,w0⟩
  rintro n s' ⟨i,σ',H',ys,us,I',rfl,rv,UE,gV,w'⟩;rcases turn i n ys H' w' with ⟨stop,hz,q⟩ | ⟨go,hz,step⟩
  .refine thn (T.done (UP X N' scope G.objs.size s2 H2 fp) rfl rfl rfl hc i _ s' _ H' _ I' (uE gV) UE stop) λr s4 ⟨hr,I4⟩=>?_;subst hr;obtain⟨oC,m,uH,hn,J4⟩:=I2.unblock f2 hC (XJ _) OF I4 rv hz;exact fin _ oC _ m H' ys s4 J4 (q _ (I4.pin (s2.heap.objs.size,UO us) (by simp)).2.1) hn I4.free (XG OF) (RY (Yw I2.lt hC)) (Yv I2.sz hC)
    (λx c e=>by obtain⟨v,z⟩:=I2.cell x c e;exact Yz (Yw z.lt hC)) λp hp=>Yz (Yw (Yq (I2.pin p hp).1) hC)
  .refine thn (T.item (UP X N' scope G.objs.size s2 H2 fp) rfl rfl rfl hc i _ s' _ H' _ I' (uE gV) UE go) λr s4 Xt=>?_;obtain⟨u,hr,h4⟩:=Xt;subst hr;refine thn h4 λ_ s5 Xt=>?_;obtain⟨x,H5,I5,r5,y5,Kq,vX⟩:=Xt;have VE:=step x H5 y5
   have uD:=ho x (List.replicate o none) (fr.map λj=>(σ[j]?).join) H5 _ (YK ..) VE;have vW:=I5.pinned (uE (us:=us) vX) (T.obj _ _ Kq)
   refine thn (hg _ _ _ _ _ s5 _ H5 x u _ vW r5 uD) λ_ s6 Xt=>?_;obtain⟨σ6,H6,I6,⟨ow,QV,e6⟩,q6⟩:=Xt;subst e6;refine thn (ht _ _ _ _ _ s6 _ H6 _ I6 q6) λb s7 Xt=>?_;obtain⟨H7,I7,q7⟩:=Xt;have back:∀ {us':Ag} {σ8:St} {H8:Hp} {s8:Shared},Inv (UP X N' scope G.objs.size s2 H2 fp) ([(s2.heap.objs.size,UO us')]++NK fp s5.heap) (ow++fr.map λj=>(σ[j]?).join) H8 s8 ->
     Inv (UP X N' scope G.objs.size s2 H2 fp) [(s2.heap.objs.size,UO us')] (σC o fr σ) H8 s8/\tn (i+1) s8.heap/\∀ b∈fp,H8 b=none:=λ{us' σ8 H8 s8} I8=>by
    refine⟨I8.unpinned.weak ?_ λj v e=>?_,T.keep _ _ _ Kq λb hb ob e=>(I8.pin (b,ob) (Yg _ (Yg _ (NJ hb e)))).1,λb hb=>?_⟩
    .unfold σC;rw[Xv,Xv,YK,QV]
    .unfold σC at e;by_cases hj:j<o
     .rw[Yu (by rwa[YK]),AG,if_pos hj]at e;cases e
     .rw[Ys (by rw[YK];exact Nat.not_lt.mp hj),YK]at e;rwa[Ys (by rw[QV];exact Nat.not_lt.mp hj),QV]
    .obtain⟨ob,e,_⟩:=T.obj _ _ Kq b hb;exact(I8.pin (b,ob) (Yg _ (Yg _ (NJ hb e)))).2.1
   cases b with
   | false =>
    rw[if_neg Yy]at q7 ⊢;obtain⟨m',hm,w7⟩:=q7;obtain⟨I8,st8,fr8⟩:=back (us':=us) (σ8:=[]) I7;exact⟨m',hm,i+1,_,H7,ys,us,I8,rfl,rv,st8,fr8,w7⟩
   | true =>
    rw[if_pos rfl]at q7 ⊢;refine thn (he _ _ _ _ _ s7 _ H7 _ I7 q7) λy s8 Xt=>?_;obtain⟨yv,H8,I8,r8,m',hm,w8⟩:=Xt;obtain⟨aD,nD,_,_,_⟩:=I8.pin (s2.heap.objs.size,UO us) (by simp);have aD:s8.heap.get? s2.heap.objs.size=some (UO us):=aD
    have nD:H8 s2.heap.objs.size=none:=nD;have hul:us.length<=sizeLine:=by rw[<- rv.length];exact NX hz
    refine append_at (hsz:=by show us.toArray.size<=sizeLine;rwa[Yb]) aD λh9 hs9 hD9=>?_;have uC:h9.get? s2.heap.objs.size=some (UO (us++[y])):=by
     rw[hD9];show some ({ cls:=.type "list",data:=.seq (us.toArray.push y) (us.length+1) }:Obj)=some { cls:=.type "list",data:=.seq (us++[y]).toArray (us++[y]).length }
     rw[Xv,Yp,List.push_toArray]
    have I9:Inv (UP X N' scope G.objs.size s2 H2 fp) (NK fp s5.heap) (ow++fr.map λj=>(σ[j]?).join) H8 { s8 with heap:=h9 } :=
     (I8.pins_of (pins':=NK fp s5.heap) λp hp=>I8.pin p (Yg _ (Yg _ hp))).turned (t':=s8.toks) (it:=s2.heap.objs.size) (λb ob hb e=>hs9.extBut b ob hb e) nD OF (.inr (XJ _))
      (λx c e=>by obtain⟨v,z⟩:=I2.cell x c (S.sub QW I2 x c e);exact Yz z.lt)
      λp hp=>by obtain⟨hb,_⟩:=iG (show p∈NK fp s5.heap from by simpa [UP] using hp);exact Yz (OG p.1 hb)
    have I9':Inv (UP X N' scope G.objs.size s2 H2 fp) ([(s2.heap.objs.size,UO (us++[y]))]++NK fp s5.heap) (ow++fr.map λj=>(σ[j]?).join) H8 { s8 with heap:=h9 } :=
     I9.pins_of λp hp=>by
      rcases Xr.mp hp with z | z
      .have e:p=(s2.heap.objs.size,UO (us++[y])):=by simpa using z
       subst e;refine⟨uC,nD,OF,λz=>?_,λv z=>nomatch z⟩;obtain⟨_,ob,Qd,_⟩:=I2.stack.mem z;exact RZ _ (Yq Qd)
      .exact I9.pin p (Yg _ z)
    obtain⟨I10,uB,uz⟩:=back (us':=us++[y]) (σ8:=[]) I9';exact⟨m',hm,i+1,_,H8,ys++[yv],us++[y],I10,rfl,Vals.append rv (.cons r8 .nil),uB,uz,w8⟩
 exact codeAny_compStart_list (loop _ rfl) (T.self _ 0 _ _ _ JW (loop _ rfl))
theorem Vt(hc:X.calm=true)(S:CompScope sc0 N0 N' o fr scope)(hi:PI X tg iter wi)(ho:Qf o g)
  (hg:∀(C:Addr) (s:Shared) (H:Hp) (fp:List Addr),PG (UP X N' scope C s H fp) tg g)
  (ht:∀(C:Addr) (s:Shared) (H:Hp) (fp:List Addr),Fh (UP X N' scope C s H fp) ifs tt)
  (he:∀(C:Addr) (s:Shared) (H:Hp) (fp:List Addr),PE (UP X N' scope C s H fp) elt te)
  (hs:∀ x,foldedSetIterable iter X.env x=pure x:=by intro _;rfl) (QW:X.env.scope=sc0:=by rfl) (Fc:X.N=N0:=by rfl):PE X (.ListComp elt [⟨tg,iter,ifs,0⟩] scope pos) (uJ wi g tt te o fr):=by intro pins s σ H Q I h;rw[eval_ListComp];refine Fd hc S hi ho hg ht he hs QW Fc I h (use:=none) (λ_ _ z=>z) λC oC D m H' ys s' J q hn nC uw uu ur uq uo=>?_;refine⟨m,hn,λh' LX=>⟨.ref D,upd H' D (.lst ys),?_,rfl,q⟩⟩;refine J.unpinned.turned (t':=s'.toks) (it:=C) (λb ob hb e=>LX.extBut b ob hb e) (by rwa[Za uw]) uu (.inr ur) uq uo
theorem OE{x:Str}{px:Pos}{Fb:Pos}(hc:X.calm=true)(hN:X.N.Nodup)(hx:X.N[i]?=some x)(hl:X.env.kindOf x=some .local)(S:CompScope sc0 N0 N' o fr scope)(hi:PI X tg iter wi)(ho:Qf o g)
  (hg:∀(C:Addr) (s:Shared) (H:Hp) (fp:List Addr),PG (UP X N' scope C s H fp) tg g)
  (ht:∀(C:Addr) (s:Shared) (H:Hp) (fp:List Addr),Fh (UP X N' scope C s H fp) ifs tt)
  (he:∀(C:Addr) (s:Shared) (H:Hp) (fp:List Addr),PE (UP X N' scope C s H fp) elt te)
  (hs:∀ x,foldedSetIterable iter X.env x=pure x:=by intro _;rfl) (QW:X.env.scope=sc0:=by rfl) (Fc:X.N=N0:=by rfl)
  (hsw:swapsWith (.ListComp elt [⟨tg,iter,ifs,0⟩] scope pos) (some (.Name x px)) Fb.line X.env=pure true:=by rfl) :
  PS X (.Assign [.Name x px] (.ListComp elt [⟨tg,iter,ifs,0⟩] scope pos) Fb) (Ks (uJ wi g tt te o fr) (SY i)):=by
 intro pins s σ H D I h;rw[exec_Assign_Name_used _ _ _ _ hsw];refine XT (NP (XT ?_));show wpAny _ X.A (do let _ <- comprehension (.ListComp elt [⟨tg,iter,ifs,0⟩] scope pos) scope X.env (firstIterPos [⟨tg,iter,ifs,0⟩] pos) (newList []) false (eval iter X.env) (some (assign (.Name x px) X.env))) _ _ s
 refine XT (Tb (Fd (Q:=λ_ s'=>SP X pins D .next s') hc S hi ho hg ht he hs QW Fc I h (use:=some (assign (.Name x px) X.env)) (λ_ _ z=>z) λC oC Dd m H' ys s' J q hn nC uw uu ur uq uo=>?_) (λ_ s' hq=>Ym (Ym hq)) λ_ _ e=>e);show wpAny _ X.A (assign (.Name x px) X.env (.ref Dd)) _ _ _
 refine wpAny_assign_Name (wL J hN hx (.inl hl) (v:=.ref Dd) rfl (λs2 I2=>?_) (.inr hl));have g1:=(I2.pin (C,oC) (by simp)).1
 have g1:s2.heap.get? C=some oC:=g1;have n2:s2.heap.Ns C m:=by
  obtain⟨oc,es,ep,e,r⟩:=hn;have e0:=(J.pin (C,oC) (by simp)).1
  have e0:s'.heap.get? C=some oC:=e0;rw[e]at e0;cases e0;exact⟨_,es,ep,g1,r⟩
 refine⟨m,n2,λh' LX=>⟨_,upd H' Dd (.lst ys),?_,q⟩⟩;exact I2.unpinned.turned (t':=s2.toks) (it:=C) (λb ob hb e=>LX.extBut b ob hb e) (by rwa[Za uw]) uu (.inr ur) uq uo
end
section
variable{X:Cx}
theorem ZF9{x y:V}{us:Ag}(r:Vals [x,y] us):∃ u v,us=[u,v]/\RelV x u/\RelV y v:=by
 cases r with
 | cons a r =>
  cases r with
  | cons b r=>cases r;exact⟨_,_,rfl,a,b⟩
theorem ZL:∀ {ns:Ac} {us:Ag},Vals (ns.map V.int) us->IntsAre us ns
 | [],_,.nil=>.nil
 | n :: ns,_,.cons r t=>by obtain⟨tk,rfl⟩:=r;exact .cons n tk (ZL t)
theorem ZH8:VM X (.type "range") (λxs H Q=>∃ j:Int,xs=[.int j]/\∀ p,H p=none->Q (.ref p) (upd H p (.rng 0 j))):=by intro pins s σ H xs us Q I r h;obtain⟨j,rfl,q⟩:=h;obtain⟨u,rfl,t,rfl⟩:=WJ r;refine call_range_1 ?_;exact⟨.ref s.heap.objs.size,_,I.laid (o:=.rng 0 j) (λb u e=>WZ _ e) (XJ _) ⟨_,_,_,Yl _ rfl⟩,rfl,q _ (I.hok.fresh (XJ _))⟩
def TX(lo hi:Int):Ac:=(List.range (hi - lo).toNat).map λ(i:Nat)=>lo+(i:Int)
theorem ZJ5(lo hi:Int):(TX lo hi).length=(hi - lo).toNat:=by unfold TX;rw[Ya,OQ]
theorem ZG9{lo:Int}:∀ {us:Ag},us.length=n->(∀(j:Nat) (v:Value),us[j]?=some v->∃ t,v=Value.int (lo+(j:Int)) t)->Vals (((List.range n).map λ(i:Nat)=>lo+(i:Int)).map V.int) us:=by
 induction n generalizing lo with
 | zero =>
  intro us h _;rw[YX.mp h];exact .nil
 | succ n ih =>
  intro us h hv;cases us with
  | nil=>cases h
  | cons u us =>
   rw[List.range_succ_eq_map,WL,WL];refine .cons ?_ ?_
   .obtain⟨t,e⟩:=hv 0 u rfl;exact⟨t,e⟩
   .have q:=ih (lo:=lo+1) (us:=us) (NY h) λj v e=>by obtain⟨t,e'⟩:=hv (j+1) v (by simpa using e);refine⟨t,?_⟩;rw[e'];congr 1;lia
    have e:(List.range n).map (λ(i:Nat)=>lo+1+(i:Int))=((List.range n).map Nat.succ).map (λ(i:Nat)=>lo+(i:Int)):=by
     rw[Mm];refine VU λi _=>?_;show lo+1+(i:Int)=lo+((i+1:Nat):Int)
     lia
    rwa[e]at q
theorem um (hc:X.calm=true):VM X (.type "list") (λxs H Q=>∃ p lo hi,xs=[.ref p]/\H p=some (.rng lo hi)/\(-(2 ^ 62)<=lo/\lo<2 ^ 62/\-(2 ^ 62)<=hi/\hi<2 ^ 62)/\(hi - lo).toNat<=16777216 /\
  ∀ l,H l=none->Q (.ref l) (upd H l (.lst ((TX lo hi).map V.int)))):=by
 intro pins s σ H xs us Q I r h;obtain⟨p,lo,hi,rfl,hp,⟨b1,b2,b3,b4⟩,hz,q⟩:=h;obtain⟨u,rfl,ru⟩:=WJ r;obtain rfl:u=Value.ref p:=ru;obtain⟨t,u,v,e⟩:=(show ObjOk X.prog X.w H s.heap p (.rng lo hi) from I.hok p _ hp);have hn:Builtin.Range.rangeSize lo hi 1=(((hi - lo).toNat:Nat):Int):=by rw[rangeSize_one];split <;> grind
 refine call_list_range (I.ok.hd hc) (t:=t) (u:=u) (v:=v) e (small_one b1 b2 b3 b4) hn hz λh' tk acc c' hk hS ha=>?_;have hl:acc.toList.length=(hi - lo).toNat:=by rw[YB];exact ha.1
 have rv:Vals ((TX lo hi).map V.int) acc.toList:=ZG9 (lo:=lo) hl λj w ew=>by obtain⟨t,e⟩:=ha.2 j w (by simpa using ew);exact⟨t,by rw[e,Mj]⟩
 refine⟨.ref s.heap.objs.size,_,I.laid (o:=.lst ((TX lo hi).map V.int)) hk (XJ _) ⟨?_,acc.toList,c',rv,?_⟩,rfl,q _ (I.hok.fresh (XJ _))⟩
 .rw[Ya,ZJ5]
  have:sizeLine=16777216:=Sx
  lia
 .rw[hS]
theorem ZZ3 (hc:X.calm=true):VM X (.builtin "sum") (λxs H Q=>∃(p:Addr) (ns:Ac),xs=[.ref p]/\SqL X.K H p (ns.map V.int)/\Q (.int ns.sum) H):=by
 intro pins s σ H xs us Q I r h;obtain⟨p,ns,rfl,hq,q⟩:=h;obtain⟨u,rfl,ru⟩:=WJ r;obtain rfl:u=Value.ref p:=ru;obtain⟨XW,rv,pl,hz⟩:=I.list hq;have hi:=ZL rv
 have Wm:=hi.allInts;obtain⟨xs,ex⟩:=Wm.items;have hl:=pl.isList
 rw[ex]at hl;refine sum_intListG (I.ok.hd hc) hl λh' tk t' hk=>?_;have e1:preSum (numAt xs) xs.size=ns.sum:=by have e2:=hi.numsOf;rw[show XW=XW.toArray.toList from rfl,ex,nums_intItems]at e2;rw[preSum_eq,YO (by simp),<- e2]
 exact⟨.int ns.sum,H,I.kept hk,⟨t',by rw[e1]⟩,q⟩
def seen(ns:Ac):Ac:=firstMet (λi=>ns.getD i 0) ns.length
def HA(K:Ad)(a:Addr):It :=
 ⟨λi H=>∃ xs x,SqL K H a xs/\xs[i]?=some x,λi H v H'=>∃ T x,H T=none/\v=.ref T/\H'=upd H T (.tup [.int i,x])/\∀ xs,SqL K H a xs->xs[i]?=some x,λi H=>∃ xs,SqL K H a xs/\xs.length<=i⟩
def EZ(K:Ad)(ta:TA):TI:=λσ H R=>ta σ H λvs H1=>∃ a,vs=[.ref a]/\(∃ xs,SqL K H1 a xs)/\R (HA K a) H1
theorem ZR7{P:Program}{w:World}{K:Ad}{elts:List Expr}{x1:Nat}{pos:Pos}(a e it:Addr)(XH:e≠it):Turn P w K (.Tuple elts x1 pos) (HA K a) [e,it] e (λi h=>(∃ old,IsEnum h e it i old)/\h.IsListIter it a i) where
 mem:=by simp
 obj:=λi h st b hb=>by
  obtain⟨⟨old,he⟩,o,eo,c,d⟩:=st;rcases Yh.mp hb with z | hb
  .subst z;exact⟨_,he,λv z=>by have z':Data.fields _=Data.cell v:=z;cases z'⟩
  .have z:b=it:=by simpa using hb
   subst z;exact⟨o,eo,λv z=>by rw[d]at z;cases z⟩
 keep:=λi h h' st k=>by obtain⟨⟨old,he⟩,hit⟩:=st;exact⟨⟨old,k e (by simp) _ he⟩,hit.at λo x=>k it (by simp) o x⟩
 item:=by
  intro X hP hw hK hc i pins s σ H E I hf st hg;subst hP hw hK;obtain⟨xs,x,hq,hx⟩:=hg;obtain⟨⟨old,he⟩,hit⟩:=st;obtain⟨XW,rv,p,hz⟩:=I.list hq;obtain⟨u,hu,ru⟩:=rv.get hx;obtain⟨f0,f1,f2,f3,f4,f5⟩:=hf e (by simp);obtain⟨g0,g1,g2,g3,g4,g5⟩:=hf it (by simp);have LW:H s.heap.objs.size=none:=I.hok.fresh (XJ _)
  refine wpAny_pyNext_enum_item he hit p.isList (x:=u) (by simpa using hu) XH λh' ho uj hT hsz hk=>?_;have OD:∀ b ob,s.heap.get? b=some ob->b≠s.heap.objs.size:=λb ob z=>Yz (Yq z)
  have Qc:∀ b ob,H b=some ob->b≠s.heap.objs.size:=λb ob z=>Yz (I.hok.lt z);have OC:∀ b ob,H b=some ob->b≠e/\b≠it:=λb ob z=>⟨λq=>(by rw[q,f0]at z;cases z),λq=>(by rw[q,g0]at z;cases z)⟩
  have I1:Inv X pins σ (upd H s.heap.objs.size (.tup [.int i,x])) { s with heap:=h',toks:=s.toks+1 }:=by
   refine I.step (g':=s.gens) (d':=s.drawn) (ch:=[e,it]) (λb hb=>?_) (λb o _ _ Wj z _=>hk b o (λq=>Wj (by simp[q])) (λq=>Wj (by simp[q])) z) (λb o _ _ Wj z _=>⟨o.slots,hk b o (λq=>Wj (by simp[q])) (λq=>Wj (by simp[q])) z⟩)
    (λb o _ z n=>by rwa[Za (OD b o z)]) (λb o Wj z=>⟨o,hk b o (λq=>Wj (by simp[q])) (λq=>Wj (by simp[q])) z⟩) (λb ys z=>by rwa[Za (Qc b _ z)]) (λb o v z=>by rwa[Za (Qc b _ z)])
    (λb ps z=>⟨#[],by rw[Za (Qc b _ z),z];simp⟩) (λm hm=>?_) (λb v z=>?_) I.bare
   .rcases Yh.mp hb with q | hb
    .rw[q];exact⟨f3,f1,f4,f5⟩
    .have q:b=it:=by simpa using hb
     rw[q];exact⟨g3,g1,g4,g5⟩
   .obtain⟨o,es,ep,Vu,r⟩:=hm;exact⟨o,es,ep,hk _ o (XG f1) (XG g1) Vu,r⟩
   .by_cases hb:b=s.heap.objs.size
    .subst hb;rw[XS]at z;cases z;exact⟨by show 2<=sizeLine;decide,[.int i s.toks,u],.cons ⟨_,rfl⟩ (.cons ru .nil),⟨_,hT,rfl,_,rfl⟩⟩
    .rw[Za hb]at z;refine(I.hok b v z).stay (λc w' Wz q=>?_) (λc q=>by rwa[Za (Qc c _ q)]) λc ys q=>by rwa[Za (Qc c _ q)]
     rcases Wz with rfl | Wz
     .exact hk c w' (OC c _ z).1 (OC c _ z).2 q
     .exact hk c w' (OC c _ Wz).1 (OC c _ Wz).2 q
  refine⟨_,rfl,wpAny_letOwnedTupleGo_enum ho λh2 Qb Ts=>?_⟩;have fT:e≠s.heap.objs.size:=OD e _ he
  have I2:Inv X pins σ (upd H s.heap.objs.size (.tup [.int i,x])) { s with heap:=h2,toks:=s.toks+1 }:=Inv.turned (s:={ s with heap:=h',toks:=s.toks+1 }) (h':=h2) (t':=s.toks+1) (it:=e) I1 (λb o hb z=>Ts.extBut b o hb z) (by rwa[Za fT]) f1 f3 f4 f5;refine⟨.ref s.heap.objs.size,_,I2,rfl,⟨_,x,LW,rfl,rfl,λys hy=>by rwa[I.list_inj hy hq]⟩,⟨⟨u,by simpa using Qb⟩,uj.at λo z=>Ts.extBut it o (XG XH) z⟩,λb hb=>?_⟩;rcases Yh.mp hb with q | hb
  .rw[q,Za fT];exact f0
  .have q:b=it:=by simpa using hb
   obtain⟨o,eo,_⟩:=hit;rwa[q,Za (OD it o eo)]
 done:=by
  intro X hP hw hK hc i pins s σ H E I hf st hg;subst hP hw hK;obtain⟨xs,hq,hx⟩:=hg;obtain⟨⟨old,he⟩,hit⟩:=st;obtain⟨XW,rv,p,hz⟩:=I.list hq;obtain⟨g0,g1,g2,g3,g4,g5⟩:=hf it (by simp);have hl:=rv.length
  exact wpAny_pyNext_enum_end (I.ok.hd hc) he hit p.isList (by simp;lia) λh' eb=>⟨rfl,I.turned (t':=s.toks) (it:=it) (λb o hb z=>eb b o hb z) g0 g1 g3 g4 g5⟩
 self:=λ_ _ _ _ _ st h=>let ⟨⟨_,he⟩,_⟩:=st;wpAny_pyIter_enum he h
theorem EY {elts:List Expr} {x1:Nat} {SX:Pos} {a:Expr} {ta:TA} {p pos:Pos} (hg:Gl X "enumerate") (hm:X.mg "enumerate"=none) (ha:PA X [a] ta) (hs:starEach [a] X.env=[(false,eval a X.env)]:=by rfl) :
  PI X (.Tuple elts x1 SX) (.Call (.Name "enumerate" p) [a] [] pos) (EZ X.K ta):=by
 intro pins s σ H R I h;refine Call_ (QZ I hg hm Boot.«enumerate» (Uc (thn (ha pos pins s σ H _ I h) λus s1 Xt=>?_) hs rfl));obtain⟨vs,H1,I1,r1,q1⟩:=Xt;obtain⟨b,e,⟨xs,hq⟩,q⟩:=q1;subst e;obtain⟨u,rfl,ru⟩:=WJ r1;obtain rfl:u=Value.ref b:=ru;obtain⟨XW,rv,pl,hz⟩:=I1.list hq;refine call_enumerate_list pl.isList λh' he hit hsz hk=>?_;have I2:Inv X pins σ H1 { s1 with heap:=h' }:=I1.kept (t':=s1.toks) hk
 refine wpAny_pyIter_enum he ?_;have nn:∀ k,s1.heap.objs.size<=k->H1 k=none:=λk hk=>I1.hok.fresh hk
 refine⟨s1.heap.objs.size+1,[s1.heap.objs.size+1,s1.heap.objs.size],_,_,H1,rfl,I2,ZR7 b _ _ (Nat.succ_ne_self _),⟨⟨_,he⟩,hit⟩,λc hc=>?_,q⟩;have hle:s1.heap.objs.size<=c:=by
  rcases Yh.mp hc with q | hc
  .rw[q];exact Uq _
  .have q:c=s1.heap.objs.size:=by simpa using hc
   rw[q];exact XJ _
 exact I1.fpOk hle (nn c hle)
theorem ui{us:Ag}(r:Vals [kV k,y] us):∃ u v,us=[u,v]/\RelV (kV k) u/\RelV y v:=ZF9 r
def uh:V->List V->Hp->VK->Prop:=λx vs H Q=>∃ d kvs k y,x=.ref d/\vs=[kV k,y]/\H d=some (.dK kvs)/\kvs.length<sizeLine/\(∀ v,Wy kvs k=some v->Q v H)/\(Wy kvs k=none->Q y (upd H d (.dK (kvs++[(k,y)]))))
theorem ZQ3:NC X "dict.setdefault" uh:=by
 intro pins s σ H x vs v us Q I rx rv h;obtain⟨d,kvs,k,y,rfl,rfl,hH,hz,h1,h2⟩:=h;cases rx;obtain⟨uk,uy,rfl,rk,ry⟩:=ui rv;obtain⟨z,hd,ws,rel,dd⟩:=Qg I.hok hH;refine call_meetsIn jl dd.typeIs PySem.F.entry_dict_setdefault (PySem.F.args_dict_setdefault_3 _ _ _) (kt_meets_setdefault (RU X.prog X.w) d (uW rk) hd uy)
  ⟨ws,dd,by rw[<- rel.length];exact z,λv' zU=>?_,λhn h' gU hs=>?_⟩
 .cases e:Wy kvs k with
  | none =>
   have q:=rel.val k;rw[e,zU]at q;exact False.elim q
  | some w' =>
   have q:=rel.val k;rw[e,zU]at q;exact⟨w',H,I.tok _,q,h1 w' e⟩
 .have e:Wy kvs k=none:=by
   cases e:Wy kvs k with
   | none=>rfl
   | some w' =>
    have q:=rel.val k;rw[e,hn]at q;exact False.elim q
  have he:∃ q,h'.get? d=some q:=let ⟨q,_,_,hq,_⟩:=gU;⟨q,hq⟩
  refine⟨y,_,uS (ob:=.dK (putK kvs k y)) I (by rw[hH];exact True.intro) hs he (Fm ?_ hd (rel.put k ry) gU),ry,?_⟩
  .have:=ZQ5 kvs k y;lia
  .rw[Fn y e];exact h2 e
def RO(p d:Addr):HO:=.ext λh=>h.IsValuesView p d
def ug:V->List V->Hp->VK->Prop:=λx vs H Q=>∃ d kvs,x=.ref d/\vs=[]/\H d=some (.dK kvs)/\∀ p,H p=none->Q (.ref p) (upd H p (RO p d))
theorem Zc8:NC X "dict.values" ug:=by
 intro pins s σ H x vs v us Q I rx rv h;obtain⟨d,kvs,rfl,rfl,hH,q⟩:=h;cases rx;cases rv;obtain⟨z,hd,ws,rel,dd⟩:=Qg I.hok hH;refine call_meetsIn je dd.typeIs PySem.F.entry_dict_values (PySem.F.args_dict_values_1 _) (meets_dict_values (RU X.prog X.w) d hd) ⟨⟨ws,dd⟩,?_⟩;refine⟨.ref s.heap.objs.size,_,I.laid (o:=RO s.heap.objs.size d) (λb u e=>WZ _ e) (XJ _) ?_,rfl,q _ (I.hok.fresh (XJ _))⟩;have e:=Yl s.heap (o:={ cls:=.type "dict_values",data:=.fields #[.ref d] }) rfl
 exact⟨⟨_,e,rfl,rfl⟩,⟨_,e⟩,λh1 h2 ⟨o,ho,r⟩ k=>⟨o,k o ho,r⟩⟩
theorem ZE8{h:Heap}(dd:h.DictOf (RU P w) d ws):∃ ep,h.DictAt (RU P w) d ws ep:=by obtain⟨o,es,ep,r⟩:=dd;exact⟨ep,o,es,r⟩
theorem gT{κ:Type}:∀ {kvs:List (κ × V)} {ws:List (κ × Value)},KV kvs ws->Vals (kvs.map (·.2)) (ws.map (·.2))
 | _,_,.nil=>.nil
 | _,_,.cons r t=>.cons r.2 (gT t)
theorem Zw3 (hc:X.calm=true):VM X (.type "list") (λxs H Q=>∃ p d kvs,xs=[.ref p]/\H p=some (RO p d)/\H d=some (.dK kvs)/\∀ l,H l=none->Q (.ref l) (upd H l (.lst (kvs.map (·.2))))):=by
 intro pins s σ H xs us Q I r h;obtain⟨p,d,kvs,rfl,hp,hd,q⟩:=h;obtain⟨u,rfl,ru⟩:=WJ r;obtain rfl:u=Value.ref p:=ru;obtain⟨hv,_,_⟩:=(show ObjOk X.prog X.w H s.heap p (RO p d) from I.hok p _ hp);obtain⟨z,OB,ws,rel,dd⟩:=Qg I.hok hd;obtain⟨ep,da⟩:=ZE8 dd;have hl:ws.length=kvs.length:=rel.length.symm
 refine PySem.W.kdl_call (PySem.W.kdl_values (knd:=RU X.prog X.w) (kvs:=ws) (ep:=ep) (r:=p) (d:=d)) (I.ok.hd hc) ⟨hv,da⟩ (by lia) λh' tk acc c' hk hS ha=>?_;have ea:acc.toList=ws.map (·.2):=by
  refine Ib λi=>?_;cases e:acc.toList[i]? with
  | none =>
   have:ws.length<=i:=by
    have:=ji.mp e
    rwa[YB,ha.1]at this
   rw[ji.mpr (by rwa[Ya])]
  | some v =>
   obtain⟨k,ek⟩:=ha.2 i v (by simpa using e);rw[Yn,ek];rfl
 refine⟨.ref s.heap.objs.size,_,I.laid (o:=.lst (kvs.map (·.2))) hk (XJ _) ⟨by rw[Ya];exact z,acc.toList,c',?_,by rw[hS]⟩,rfl,q _ (I.hok.fresh (XJ _))⟩;rw[ea];exact gT rel
end
inductive EqD (K:Ad) (H:Hp):Nat->V->V->Bool->Prop
 | flat {n:Nat} {x y:V} (fx:Wn x=true) (fy:Wn y=true):EqD K H n x y (Tp x y)
 | lsts {n:Nat} {a b:Addr} {xs ys:List V} {e:Nat->Bool} (ha:SqL K H a xs) (hb:SqL K H b ys) (hl:xs.length=ys.length) (h:∀ i x y,xs[i]?=some x->ys[i]?=some y->EqD K H n x y (e i)):EqD K H (n+1) (.ref a) (.ref b) ((List.range xs.length).all e)
 | lens {n:Nat} {a b:Addr} {xs ys:List V} (ha:SqL K H a xs) (hb:SqL K H b ys) (hl:xs.length≠ys.length):EqD K H (n+1) (.ref a) (.ref b) false
 | tups {n:Nat} {a b:Addr} {xs ys:List V} {e:Nat->Bool} (ha:SqT K H a xs) (hb:SqT K H b ys) (h:∀ i x y,xs[i]?=some x->ys[i]?=some y->EqD K H n x y (e i)) :
   EqD K H (n+1) (.ref a) (.ref b) ((List.range (min xs.length ys.length)).all e && xs.length == ys.length)
theorem uf(h:Wn x=true):Tp x x=true:=by cases x <;> first | rfl | (simp[Tp];done) | exact absurd (show false=true from h) Yy
section
variable{X:Cx}{pins:List (Addr × Obj)}{σ:St}{H:Hp}{s:Shared}
theorem Vals.at{j:Nat}(r:Vals xs us)(h:j<us.length):∃ x,xs[j]?=some x/\RelV x us[j]:=by
 have hl:=r.length;have hx:xs[j]?=some (xs[j]'(by lia)):=Xu (by omega)
 obtain⟨u,e,ru⟩:=r.get hx;rw[Xu h]at e;cases e;exact⟨_,hx,ru⟩
theorem EqD.self(q:EqD X.K H n x y b)(I:Inv X pins σ H s):x=y->b=true:=by
 induction q with
 | flat fx fy=>intro e;subst e;exact uf fx
 | @lsts n a b xs ys e ha hb hl h ih =>
  intro z;cases z;have e1:xs=ys:=I.list_inj ha hb
  subst e1;rw[Sb];intro i hi;have hx:xs[i]?=some (xs[i]'(YI.mp hi)):=Xu _
  exact ih i _ _ hx hx rfl
 | @lens n a b xs ys ha hb hl =>
  intro z;cases z;exact absurd (Xx List.length (I.list_inj ha hb)) hl
 | @tups n a b xs ys e ha hb h ih =>
  intro z;cases z;have e1:xs=ys:=I.tuple_inj ha hb
  subst e1;rw[Nat.min_self,Ta,Sb];refine⟨λi hi=>?_,by simp⟩;have hx:xs[i]?=some (xs[i]'(YI.mp hi)):=Xu _
  exact ih i _ _ hx hx rfl
theorem EqD.at(q:EqD X.K H n x y b)(I:Inv X pins σ H s):∀ {A:Around} {u v:Value},A.units+n<cLine->RelV x u->RelV y v->SeqAt.EqAt A s u v b:=by
 induction q with
 | flat fx fy=>intro A u v _ ru rv;exact Fv ru rv fx fy
 | @lsts n a b xs ys e ha hb hl h ih =>
  intro A u v hu ru rv;obtain rfl:u=Value.ref a:=ru;obtain rfl:v=Value.ref b:=rv;by_cases VJ:a=b
  .have z:=EqD.self (EqD.lsts ha hb hl h) I (Xx V.ref VJ);rw[z,VJ];exact SeqAt.EqAt.same _
  obtain⟨us,rx,px,_⟩:=I.list ha;obtain⟨vs,ry,py,_⟩:=I.list hb;have l1:=rx.length
  have l2:=ry.length;have z:=SeqAt.RcAt.lists (A:=A) (s:=s) (e:=e) px.isList py.isList (by rw[Yb,Yb];lia) (by lia) λj h1 h2=>by obtain⟨x,ex,Qa⟩:=rx.at (j:=j) (by simpa using h1);obtain⟨y,ey,PZ⟩:=ry.at (j:=j) (by simpa using h2);exact ih j x y ex ey (A:=A.in1) (by show A.units+1+n<cLine;lia) (by simpa using Qa) (by simpa using PZ)
  rw[Yb,<- l1]at z;exact xo VJ z
 | @lens n a b xs ys ha hb hl =>
  intro A u v hu ru rv;obtain rfl:u=Value.ref a:=ru;obtain rfl:v=Value.ref b:=rv;obtain⟨us,rx,px,_⟩:=I.list ha;obtain⟨vs,ry,py,_⟩:=I.list hb;have l1:=rx.length
  have l2:=ry.length;have VJ:a≠b:=λz=>by subst z;exact hl (Xx List.length (I.list_inj ha hb))
  exact xo VJ (SeqAt.RcAt.lists_lengths px.isList py.isList (by rw[Yb,Yb];simp;lia) (by omega))
 | @tups n a b xs ys e ha hb h ih =>
  intro A u v hu ru rv;obtain rfl:u=Value.ref a:=ru;obtain rfl:v=Value.ref b:=rv;by_cases VJ:a=b
  .have z:=EqD.self (EqD.tups ha hb h) I (Xx V.ref VJ);rw[z,VJ];exact SeqAt.EqAt.same _
  obtain⟨us,rx,px,_⟩:=I.tuple ha;obtain⟨vs,ry,py,_⟩:=I.tuple hb;have l1:=rx.length
  have l2:=ry.length;have z:=SeqAt.RcAt.tuples (A:=A) (s:=s) (e:=e) (show s.heap.IsTuple a us.toArray from px) (show s.heap.IsTuple b vs.toArray from py) (by omega) λj h1 h2=>by obtain⟨x,ex,Qa⟩:=rx.at (j:=j) (by simpa using h1);obtain⟨y,ey,PZ⟩:=ry.at (j:=j) (by simpa using h2);exact ih j x y ex ey (A:=A.in1) (by show A.units+1+n<cLine;omega) (by simpa using Qa) (by simpa using PZ)
  rw[Yb,Yb,<- l1,<- l2]at z;exact xo VJ z
end
section
variable{X:Cx}
def Nw(K:Ad)(neg:Bool):R2:=λx y H Q=>∃ n b p q,x=.ref p/\y=.ref q/\n<=6/\EqD K H n x y b/\Q (.bl (if neg then !b else b)) H
theorem ue(hu:X.A.units+8<cLine):WK X (compareOp .Eq) (Nw X.K false):=by
 intro pins s σ H x y u v Q I ru rv h;obtain⟨n,b,p,q,rfl,rfl,hn,d,hq⟩:=h;obtain rfl:u=Value.ref p:=ru;obtain rfl:v=Value.ref q:=rv;have fin:EP X pins σ Q (.bool b) s:=⟨.bl b,H,I,rfl,hq⟩
 cases d with
 | flat fx fy=>exact absurd (show false=true from fx) Yy
 | @lsts n _ _ xs ys e ha hb hl h =>
  obtain⟨us,rx,px,_⟩:=I.list ha;obtain⟨vs,ry,py,_⟩:=I.list hb;have l1:=rx.length
  have l2:=ry.length;refine SeqAt.eq_listAt (e:=e) px.isList py.isList (by rw[Yb,Yb];lia) (by lia) (λj h1 h2=>?_) (by rwa[Yb,<- l1]);obtain⟨x,ex,Qa⟩:=rx.at (j:=j) (by simpa using h1);obtain⟨y,ey,PZ⟩:=ry.at (j:=j) (by simpa using h2);exact(h j x y ex ey).at I (A:=X.A.in1) (by show X.A.units+1+n<cLine;lia) (by simpa using Qa) (by simpa using PZ)
 | @lens n _ _ xs ys ha hb hl =>
  obtain⟨us,rx,px,_⟩:=I.list ha;obtain⟨vs,ry,py,_⟩:=I.list hb;have l1:=rx.length
  have l2:=ry.length;exact SeqAt.eq_list_lengthsAt px.isList py.isList (by rw[Yb,Yb];simp;lia) (by omega) fin
 | @tups n _ _ xs ys e ha hb h =>
  obtain⟨us,rx,px,_⟩:=I.tuple ha;obtain⟨vs,ry,py,_⟩:=I.tuple hb;have l1:=rx.length
  have l2:=ry.length;refine SeqAt.eq_tupleAt (e:=e) (show s.heap.IsTuple p us.toArray from px) (show s.heap.IsTuple q vs.toArray from py) (by omega) (λj h1 h2=>?_) (by rwa[Yb,Yb,<- l1,<- l2]);obtain⟨x,ex,Qa⟩:=rx.at (j:=j) (by simpa using h1);obtain⟨y,ey,PZ⟩:=ry.at (j:=j) (by simpa using h2);exact(h j x y ex ey).at I (A:=X.A.in1) (by show X.A.units+1+n<cLine;omega) (by simpa using Qa) (by simpa using PZ)
theorem ud(hu:X.A.units+8<cLine):WK X (compareOp .NotEq) (Nw X.K true):=by
 intro pins s σ H x y u v Q I ru rv h;obtain⟨n,b,p,q,rfl,rfl,hn,d,hq⟩:=h;obtain rfl:u=Value.ref p:=ru;obtain rfl:v=Value.ref q:=rv;have fin:EP X pins σ Q (.bool (!b)) s:=⟨.bl (!b),H,I,rfl,hq⟩
 cases d with
 | flat fx fy=>exact absurd (show false=true from fx) Yy
 | @lsts n _ _ xs ys e ha hb hl h =>
  obtain⟨us,rx,px,_⟩:=I.list ha;obtain⟨vs,ry,py,_⟩:=I.list hb;have l1:=rx.length
  have l2:=ry.length;refine SeqAt.RcNeAt.lists (e:=e) px.isList py.isList (by rw[Yb,Yb];omega) (by omega) (λj h1 h2=>?_) _ _ _ _ (by rwa[Yb,<- l1]);obtain⟨x,ex,Qa⟩:=rx.at (j:=j) (by simpa using h1);obtain⟨y,ey,PZ⟩:=ry.at (j:=j) (by simpa using h2);exact(h j x y ex ey).at I (A:=X.A.in1) (by show X.A.units+1+n<cLine;omega) (by simpa using Qa) (by simpa using PZ)
 | @lens n _ _ xs ys ha hb hl =>
  obtain⟨us,rx,px,_⟩:=I.list ha;obtain⟨vs,ry,py,_⟩:=I.list hb;have l1:=rx.length
  have l2:=ry.length;exact SeqAt.RcNeAt.lists_lengths px.isList py.isList (by rw[Yb,Yb];simp;omega) (by omega) _ _ _ _ fin
 | @tups n _ _ xs ys e ha hb h =>
  obtain⟨us,rx,px,_⟩:=I.tuple ha;obtain⟨vs,ry,py,_⟩:=I.tuple hb;have l1:=rx.length
  have l2:=ry.length;refine SeqAt.RcNeAt.tuples (e:=e) (show s.heap.IsTuple p us.toArray from px) (show s.heap.IsTuple q vs.toArray from py) (by omega) (λj h1 h2=>?_) _ _ _ _ (by rwa[Yb,Yb,<- l1,<- l2]);obtain⟨x,ex,Qa⟩:=rx.at (j:=j) (by simpa using h1);obtain⟨y,ey,PZ⟩:=ry.at (j:=j) (by simpa using h2);exact(h j x y ex ey).at I (A:=X.A.in1) (by show X.A.units+1+n<cLine;omega) (by simpa using Qa) (by simpa using PZ)
end
end L2
namespace My
open PySem L2
abbrev IL(ns:Ac):List V:=ns.map V.int
theorem XB(ns:Ac):(IL ns).length=ns.length:=Ya ..
theorem zM(a b:Ac):IL (a++b)=IL a++IL b:=YJ ..
theorem ZK(a:Ac)(r:Int):IL (a++[r])=IL a++[.int r]:=YJ ..
theorem gS(a:Ac)(n:Nat):IL (a.take n)=(IL a).take n:=List.map_take ..
theorem uc(a:Ac)(n:Nat):IL (a.drop n)=(IL a).drop n:=List.map_drop ..
theorem EX(a:Ac)(n:Nat)(z:Int):IL (a.set n z)=(IL a).set n (.int z):=List.map_set ..
theorem WI{i:Nat}{z:Int}(h:ns[i]?=some z):(IL ns)[i]?=some (.int z):=by rw[Yn,h];rfl
theorem ZW{i:Nat}{x:V}(h:(IL ns)[i]?=some x):∃ z,x=.int z/\ns[i]?=some z:=by
 rw[Yn]at h;cases e:ns[i]? with
 | none=>rw[e]at h;cases h
 | some z=>rw[e]at h;exact⟨z,(Yi h).symm,rfl⟩
theorem ZA{a:Addr}(hn:H a=none)(s:Same H H2):Same H (upd H2 a o):=λb u e=>by rw[Za (Zb e hn)];exact s b u e
theorem Zs{p:Addr}(s:Same H H2)(hp:H2 p=none):Same H (upd H2 p o):=ZA (s.free hp) s
theorem XZ{p:Addr}(hp:H p=none):Same H (upd H p o):=Zs (Same.refl H) hp
theorem LV(e:Same H H')(h:SqT K H a xs):SqT K H' a xs:=by
 rcases h with (h | ⟨o,h⟩) | h
 .exact .inl (.inl (e _ _ h))
 .exact .inl (.inr ⟨o,e _ _ h⟩)
 .exact .inr h
theorem OA{n:Nat}(h:n<=1000000):n<=sizeLine:=Yv h (by decide)
theorem Zh{n:Nat}(h:n<=1000000):n<sizeLine:=AB h (by decide)
theorem t8(hr:Room k A):A.units+8<cLine:=AB (Nat.add_le_add_left (by decide:8<=64) _) hr.units
theorem ZB{α:Type}{xs:List α}{i:Int}{n:Nat}{x:α}(hi:i=(n:Int))(h:xs[n]?=some x):Ws xs i=some x:=by
 subst hi;have hn:n<xs.length:=(Xm.mp h).1
 unfold Ws OJ;rw[if_pos (Int.natCast_nonneg n),if_pos (by omega)];simpa using h
theorem zL{c A B:Prop}[Decidable c](hc:c)(h:A):if decide c=true then A else B:=by rwa[if_pos (Yr hc)]
theorem SQ{c A B:Prop}[Decidable c](hc:¬ c)(h:B):if decide c=true then A else B:=by rwa[if_neg (by simp[hc])]
theorem PY{c A B:Prop}[Decidable c](hc:c)(h:B):if (!decide c)=true then A else B:=by rwa[if_neg (by simp[hc])]
theorem t5{c A B:Prop}[Decidable c](hc:¬ c)(h:A):if (!decide c)=true then A else B:=by rwa[if_pos (by simp[hc])]
theorem Xc{c A B:Prop}[Decidable c](h1:c->A)(h2:¬ c->B):if decide c=true then A else B:=by
 by_cases h:c
 .exact zL h (h1 h)
 .exact SQ h (h2 h)
theorem WX{c A B:Prop}[Decidable c](h1:c->B)(h2:¬ c->A):if (!decide c)=true then A else B:=by
 by_cases h:c
 .exact PY h (h1 h)
 .exact t5 h (h2 h)
theorem gR{b:Bool}{A B:Prop}(h1:b=true->A)(h2:b=false->B):if b=true then A else B:=by
 cases b with
 | true=>exact Wf (h1 rfl)
 | false=>exact Uz (h2 rfl)
theorem EW{b:Bool}{A B:Prop}(h1:b=true->B)(h2:b=false->A):if (!b)=true then A else B:=by
 cases b with
 | true=>exact Uz (h1 rfl)
 | false=>exact Wf (h2 rfl)
def SqK(k:Bool)(K:Ad)(H:Hp)(a:Addr)(xs:List V):Prop:=match k with
 | false=>SqL K H a xs
 | true=>SqT K H a xs
theorem SqK.same(e:Same H H')(h:SqK k K H a xs):SqK k K H' a xs:=by
 cases k with
 | false=>exact e.seq h
 | true=>exact LV e h
theorem SqK.or(h:SqK k K H a xs):SqL K H a xs\/SqT K H a xs:=by
 cases k with
 | false=>exact .inl h
 | true=>exact .inr h
def EV(K:Ad)(tl:TE):TI:=λσ H R=>tl σ H λx H1=>∃ a,x=.ref a/\(((∃ xs,SqL K H1 a xs)/\R (Qn K a) H1)\/((∃ xs,SqT K H1 a xs)/\R (Qm K a) H1))
theorem JV(hl:PE X l tl):PI X tg l (EV X.K tl):=by
 intro pins s σ H R I h;refine thn (hl pins s σ H _ I h) λv s1 Xt=>?_;obtain⟨x,H1,I1,r1,q1⟩:=Xt;obtain⟨a,e,q⟩:=q1;subst e;cases r1;rcases q with ⟨⟨xs,hq⟩,q⟩ | ⟨⟨xs,hq⟩,q⟩
 .obtain⟨XW,rv,p,hz⟩:=I1.list hq;refine Aw p.isList ?_;refine⟨s1.heap.objs.size,[s1.heap.objs.size],_,_,H1,rfl,I1.kept (t':=s1.toks) λb o e=>WZ _ e,iJ a _,⟨_,Yl _ rfl,rfl,rfl⟩,λb hb=>?_,q⟩;have e:b=s1.heap.objs.size:=by simpa using hb
  subst e;exact I1.fpOk (XJ _) (I1.hok.fresh (XJ _))
 .obtain⟨XW,rv,p,hz⟩:=I1.tuple hq;refine wpAny_pyIter_tuple (show s1.heap.IsTuple a XW.toArray from p) ?_;refine⟨s1.heap.objs.size,[s1.heap.objs.size],_,_,H1,rfl,I1.kept (t':=s1.toks) λb o e=>WZ _ e,iI a _,⟨_,Yl _ rfl,rfl,rfl⟩,λb hb=>?_,q⟩;have e:b=s1.heap.objs.size:=by simpa using hb
  subst e;exact I1.fpOk (XJ _) (I1.hok.fresh (XJ _))
theorem RN{g:TG}{tb:TS}{D:Ends}(Pv:Nat->St->Hp->Prop)(h0:Pv 0 σ H)(hl:∀ i σ H,i<=xs.length->Pv i σ H->SqK k K H a xs)
  (hs:∀ i x σ H,xs[i]?=some x->Pv i σ H->g x σ H λσ2 H2=>tb { D with nx:=Pv (i+1),ct:=Pv (i+1),bk:=D.nx } σ2 H2) (hd:∀ σ H,Pv xs.length σ H->D.nx σ H) :
  (((∃ xs,SqL K H a xs)/\∃ W:Nat->Nat->St->Hp->Prop,(∃ m,W 0 m σ H)/\∀ i m σ H,W i m σ H ->
   ((Qn K a).stop i H/\D.nx σ H)\/((Qn K a).go i H/\∃ N:St->Hp->Prop,(∀ σ' H',N σ' H'->∃ m',m'<m/\W (i+1) m' σ' H')/\∀ x H',(Qn K a).yld i H x H'->g x σ H' λσ2 H2=>tb { D with nx:=N,ct:=N,bk:=D.nx } σ2 H2)) \/
  ((∃ xs,SqT K H a xs)/\∃ W:Nat->Nat->St->Hp->Prop,(∃ m,W 0 m σ H)/\∀ i m σ H,W i m σ H ->
   ((Qm K a).stop i H/\D.nx σ H)\/((Qm K a).go i H/\∃ N:St->Hp->Prop,(∀ σ' H',N σ' H'->∃ m',m'<m/\W (i+1) m' σ' H')/\∀ x H',(Qm K a).yld i H x H'->g x σ H' λσ2 H2=>tb { D with nx:=N,ct:=N,bk:=D.nx } σ2 H2))):=by
 cases k with
 | false=>exact .inl ⟨⟨xs,hl 0 σ H (Yk _) h0⟩,HJ (K:=K) (a:=a) (xs:=xs) Pv h0 hl hs hd⟩
 | true=>exact .inr ⟨⟨xs,hl 0 σ H (Yk _) h0⟩,iC (K:=K) (a:=a) (xs:=xs) Pv h0 hl hs hd⟩
def PairV(H:Hp)(v:V)(p:Int × Int):Prop:=∃ t,v=.ref t/\H t=some (.tup [.int p.1,.int p.2])
def PairsV(H:Hp)(xs:List V)(ps:Aa):Prop:=xs.length=ps.length/\∀(i:Nat) (p:Int × Int),ps[i]?=some p->∃ v,xs[i]?=some v/\PairV H v p
theorem PairV.same(s:Same H H')(h:PairV H v p):PairV H' v p:=let ⟨t,e,q⟩:=h;⟨t,e,s _ _ q⟩
theorem PairsV.same(s:Same H H')(h:PairsV H xs ps):PairsV H' xs ps:=⟨h.1,λi p e=>let ⟨v,e1,q⟩:=h.2 i p e;⟨v,e1,q.same s⟩⟩
theorem PairsV.at(h:PairsV H xs ps){i:Nat}{v:V}(e:xs[i]?=some v):∃ p,ps[i]?=some p/\PairV H v p:=by
 have hi:i<xs.length:=(Xm.mp e).1;have hp:i<ps.length:=by rwa[<- h.1]
 obtain⟨v',e1,q⟩:=h.2 i ps[i] (Xu hp);rw[e]at e1;cases e1;exact⟨_,Xu hp,q⟩
theorem PairsV.nil:PairsV H [] []:=⟨rfl,λi p e=>by simp at e⟩
theorem PairsV.snoc(h:PairsV H xs ps)(q:PairV H v p):PairsV H (xs++[v]) (ps++[p]):=by
 refine⟨by rw[Xv,Xv,h.1];rfl,λi p' e=>?_⟩;by_cases hi:i<ps.length
 .rw[Yu hi]at e;rw[Yu (by rwa[h.1])];exact h.2 i p' e
 .have hl:i=ps.length:=by
   have:=(Xm.mp e).1
   rw[Xv,Yp]at this;lia
  subst hl;rw[Ys (XJ _),QE]at e;rw[Ys (by rw[h.1];exact XJ _),h.1,QE];have e':p=p':=Yi e
  subst e';exact⟨v,rfl,q⟩
theorem PairsV.drop(h:PairsV H xs ps)(n:Nat):PairsV H (xs.drop n) (ps.drop n):=by refine⟨by rw[Wx,Wx,h.1],λi p e=>?_⟩;rw[AA]at e ⊢;exact h.2 _ p e
theorem PairsV.take(h:PairsV H xs ps)(n:Nat):PairsV H (xs.take n) (ps.take n):=by
 refine⟨by rw[Yj,Yj,h.1],λi p e=>?_⟩;by_cases hi:i<n
 .rw[jb hi]at e ⊢;exact h.2 _ p e
 .rw[List.getElem?_take_eq_none (by lia)]at e;cases e
theorem PairsV.app(h:PairsV H xs ps)(h2:PairsV H ys qs):PairsV H (xs++ys) (ps++qs):=by
 refine⟨by rw[Xv,Xv,h.1,h2.1],λi p e=>?_⟩;by_cases hi:i<ps.length
 .rw[Yu hi]at e;rw[Yu (by rwa[h.1])];exact h.2 i p e
 .rw[Ys (by lia)]at e;rw[Ys (by rw[h.1];omega),h.1];exact h2.2 _ p e
theorem t4:¬ (("places":Str)="ties"):=by decide +kernel
def wf (n:Int) (tl:Addr):List (Str × V):=XM "ties" (.ref tl) (XM "places" (.int n) [])
theorem JU (n:Int) (tl:Addr):(wf n tl).lookup ("places":Str)=some (.int n):=by unfold wf;rw[FN,if_neg t4,FN,if_pos rfl]
theorem Oz (n:Int) (tl:Addr):(wf n tl).lookup ("ties":Str)=some (.ref tl):=by unfold wf;rw[FN,if_pos rfl]
def WebAt(C:Addr)(H:Hp)(w:Addr)(n:Int)(ps:Aa):Prop:=∃ dx tl xs,H w=some (.ins C dx (wf n tl))/\H tl=some (.lst xs)/\PairsV H xs ps
theorem WebAt.same(s:Same H H')(h:WebAt C H w n ps):WebAt C H' w n ps:=let ⟨dx,tl,xs,a,b,c⟩:=h;⟨dx,tl,xs,s _ _ a,s _ _ b,c.same s⟩
def Zz(n:Int)(ps:Aa):Prop:=1<=n/\n<=14/\ps.length<=30/\∀ p∈ps,0<=p.1/\p.1<n/\0<=p.2/\p.2<n
def FX(K:Ad)(mg:Af)(x qual:Str)(st:Stmt):Prop:=∃(f:Addr) (fd:FuncData),mg x=some (.ref f)/\Fun K x qual st f fd
theorem XR{K:Ad}{h:Heap}{mg:Af}{x:Str}{st:Stmt}{f:Addr}{oc:Value}{od an:Option Addr}{Um:Array (Option Value)}{kV doc pm Xw ct:Value}(X:K.In h)(G:h.Ns mainGlobals mg)
  (a:PySem.W.nsIn K mainGlobals x=some (some (.ref f))) (l:K.lookup f=some ⟨oc,od,.func (PySem.W.fnOf x x (Ka st) (OI st) (XD st) .none kV doc pm an Xw ct),Um⟩) (c:PySem.W.codeIn K Xw x=true) (k:PySem.W.keepIn K (.ref f)=true):FX K mg x x st :=
 ⟨f,_,Qx X G a,JZ l c k⟩
def gQ (K:Ad) (mg:Af) (x qual:Str) (st:Stmt) (fs:List Str):Prop:=∃(C f:Addr) (fd:FuncData),mg x=some (.ref C)/\Fun K "__init__" qual st f fd/\Cls K C/\Mk K C f/\∀ a∈fs,NoAttr K C a
theorem EU{mg:Af}{oc:Value}{od an:Option Addr}{Um:Array (Option Value)}{kV doc pm Xw ct:Value}(X:K.In h)(G:h.Ns mainGlobals mg)
  (aC:PySem.W.nsIn K mainGlobals x=some (some (.ref C))) (a:PySem.W.findIn K (.ref C) "__init__"=some (some (.ref f))) (i:PySem.W.isFn K (.ref f)=true)
  (l:K.lookup f=some ⟨oc,od,.func (PySem.W.fnOf "__init__" qual (Ka st) (OI st) (XD st) .none kV doc pm an Xw ct),Um⟩) (c:PySem.W.codeIn K Xw qual=true) (k:PySem.W.keepIn K (.ref f)=true)
  (pg:PySem.W.plainGet K C Str.empty=true) (hd:PySem.W.hasDictIn K C=true) (po:PySem.W.plainOver K C=true) (sa:PySem.W.findIn K (.ref C) "__setattr__"=some (some (.builtin "object.__setattr__"))) (mk:PySem.W.makesIn K C=true) (kc:PySem.W.keepIn K (.ref C)=true)
  (na:∀ a∈fs,PySem.W.findIn K (.ref C) a=some none):gQ K mg x qual st fs :=
 ⟨C,f,_,Qx X G aC,JZ l c k,⟨pg,hd,po,sa⟩,⟨mk,a,i,kc⟩,na⟩
theorem Vm{mg:Af}{z:Int}{v:Value}(X:K.In h)(G:h.Ns mainGlobals mg)(a:PySem.W.nsIn K mainGlobals x=some (some v))(e:∃ tk,v=.int z tk):∃ tk,mg x=some (.int z tk):=by obtain⟨tk,rfl⟩:=e;exact⟨tk,Qx X G a⟩
theorem Oy{x:V}{A B:St->Hp->Prop}(h:A (σ.set i (some x)) H):SY i x σ H λσ2 H2=>tYes σ2 H2 λb H3=>if b=true then A σ2 H3 else B σ2 H3 :=
 (show if true=true then A (σ.set i (some x)) H else B (σ.set i (some x)) H from Wf h)
theorem nm{x:V}{Q:St->Hp->Prop}(h:Q (σ.set i (some x)) H):SY i x σ H Q:=h
section
variable{K:Ad}{a:Addr}{xs:List V}{g:TG}{tt:TT}{te:TE}{o:Nat}{fr:List Nat}{σ:St}{H:Hp}{Q:VK}
abbrev JT(Pv:Nat->List V->Hp->Prop)(g:TG)(tt:TT)(te:TE)(o:Nat)(fr:List Nat)(σ:St)(i:Nat)(x:V)(ys:List V)(H:Hp):Prop :=
 ∀ S:Nat->List V->Hp->Prop,(∀ ys H,Pv (i+1) ys H->S (i+1) ys H)->g x (σC o fr σ) H λσ2 H2=>tt σ2 H2 λb H3=>if b=true then te σ2 H3 λy H4=>S (i+1) (ys++[y]) H4 else S (i+1) ys H3
theorem Sr(Pv:Nat->List V->Hp->Prop)(h0:Pv 0 [] H)(hz:xs.length<sizeLine)(hl:∀ i ys H,i<=xs.length->Pv i ys H->SqL K H a xs/\ys.length<=i)
  (hs:∀ i x ys H,xs[i]?=some x->Pv i ys H->JT Pv g tt te o fr σ i x ys H) (hd:∀ ys H,Pv xs.length ys H->∀ p,H p=none->Q (.ref p) (upd H p (.lst ys))):Nz (Qn K a) g tt te o fr σ H Q:=by
 refine⟨λi m ys H=>m=xs.length - i/\i<=xs.length/\Pv i ys H,⟨xs.length,by simp,Yk _,h0⟩,?_⟩;rintro i m ys H ⟨rfl,hi,p⟩;obtain⟨q,hy⟩:=hl i ys H hi p;by_cases Xe:i<xs.length
 .refine .inr ⟨⟨xs,xs[i],q,by simp[Xe]⟩,by lia,λx H' ⟨e,y⟩=>?_⟩;subst e;have hx:=y xs q
  exact hs i x ys _ hx p (λj ys H=>∃ m',m'<xs.length - i/\m'=xs.length - j/\j<=xs.length/\Pv j ys H) λys H p'=>⟨xs.length - (i+1),by grind,rfl,Xe,p'⟩
 .have e:i=xs.length:=by lia
  subst e;exact .inl ⟨⟨xs,q,XJ _⟩,by lia,hd ys H p⟩
theorem JS(Pv:Nat->List V->Hp->Prop)(h0:Pv 0 [] H)(hz:xs.length<sizeLine)(hl:∀ i ys H,i<=xs.length->Pv i ys H->SqT K H a xs/\ys.length<=i)
  (hs:∀ i x ys H,xs[i]?=some x->Pv i ys H->JT Pv g tt te o fr σ i x ys H) (hd:∀ ys H,Pv xs.length ys H->∀ p,H p=none->Q (.ref p) (upd H p (.lst ys))):Nz (Qm K a) g tt te o fr σ H Q:=by
 refine⟨λi m ys H=>m=xs.length - i/\i<=xs.length/\Pv i ys H,⟨xs.length,by simp,Yk _,h0⟩,?_⟩;rintro i m ys H ⟨rfl,hi,p⟩;obtain⟨q,hy⟩:=hl i ys H hi p;by_cases Xe:i<xs.length
 .refine .inr ⟨⟨xs,xs[i],q,by simp[Xe]⟩,by omega,λx H' ⟨e,y⟩=>?_⟩;subst e;have hx:=y xs q
  exact hs i x ys _ hx p (λj ys H=>∃ m',m'<xs.length - i/\m'=xs.length - j/\j<=xs.length/\Pv j ys H) λys H p'=>⟨xs.length - (i+1),by omega,rfl,Xe,p'⟩
 .have e:i=xs.length:=by omega
  subst e;exact .inl ⟨⟨xs,q,XJ _⟩,by omega,hd ys H p⟩
theorem ET(Pv:Nat->List V->Hp->Prop)(h0:Pv 0 [] H)(hz:xs.length<sizeLine)(hl:∀ i ys H,i<=xs.length->Pv i ys H->SqK k K H a xs/\ys.length<=i)
  (hs:∀ i x ys H,xs[i]?=some x->Pv i ys H->JT Pv g tt te o fr σ i x ys H) (hd:∀ ys H,Pv xs.length ys H->∀ p,H p=none->Q (.ref p) (upd H p (.lst ys))) :
  ((∃ xs,SqL K H a xs)/\Nz (Qn K a) g tt te o fr σ H Q)\/((∃ xs,SqT K H a xs)/\Nz (Qm K a) g tt te o fr σ H Q):=by
 cases k with
 | false=>exact .inl ⟨⟨xs,(hl 0 [] H (Yk _) h0).1⟩,Sr Pv h0 hz hl hs hd⟩
 | true=>exact .inr ⟨⟨xs,(hl 0 [] H (Yk _) h0).1⟩,JS Pv h0 hz hl hs hd⟩
theorem zK(Pv:Nat->List V->Hp->Prop)(h0:Pv 0 [] H)(hz:n<sizeLine)(hl:∀ i ys H,i<=n->Pv i ys H->ys.length<=i)
  (hs:∀ i ys H,i<n->Pv i ys H->JT Pv g tt te o fr σ i (.int (lo+i)) ys H) (hd:∀ ys H,Pv n ys H->∀ p,H p=none->Q (.ref p) (upd H p (.lst ys))):Nz (Me lo n) g tt te o fr σ H Q:=by
 refine⟨λi m ys H=>m=n - i/\i<=n/\Pv i ys H,⟨n,by simp,Yk _,h0⟩,?_⟩;rintro i m ys H ⟨rfl,hi,p⟩;have hy:=hl i ys H hi p
 by_cases Xe:i<n
 .refine .inr ⟨Xe,by lia,λx H' ⟨e,y⟩=>?_⟩;subst e;subst y;exact hs i ys _ Xe p (λj ys H=>∃ m',m'<n - i/\m'=n - j/\j<=n/\Pv j ys H) λys H p'=>⟨n - (i+1),by grind,rfl,Xe,p'⟩
 .have e:i=n:=by lia
  subst e;exact .inl ⟨XJ _,by lia,hd ys H p⟩
end
theorem Hz{α:Type}{l:List α}(h:l.Nodup){i j:Nat}{x:α}(a:l[i]?=some x)(b:l[j]?=some x):i=j:=by obtain⟨h1,e1⟩:=Xm.mp a;obtain⟨h2,e2⟩:=Xm.mp b;exact(List.getElem_inj h).mp (e1.trans e2.symm)
theorem We{α:Type}{l:List α}{x d:α}(h:l[i]?=some x):l.getD i d=x:=by rw[WO,h];rfl
theorem ES{α:Type}{l:List α}{x:α}(h:l.Nodup)(hx:x∉l):(l++[x]).Nodup:=by rw[Wr];refine⟨h,by simp,λa ha b hb=>?_⟩;rw[XC]at hb;subst hb;rintro rfl;exact hx ha
theorem gP{g:TG}{tb:TS}{D:Ends}(Pv:Nat->St->Hp->Prop)(h0:Pv 0 σ H)(hl:∀ i σ H,i<=xs.length->Pv i σ H->SqL K H a xs)
  (hs:∀(i:Nat) x σ H (p:Addr),H p=none->xs[i]?=some x->Pv i σ H->g (.ref p) σ (upd H p (.tup [.int i,x])) λσ2 H2=>tb { D with nx:=Pv (i+1),ct:=Pv (i+1),bk:=D.nx } σ2 H2) (hd:∀ σ H,Pv xs.length σ H->D.nx σ H) :
  ∃ W:Nat->Nat->St->Hp->Prop,(∃ m,W 0 m σ H)/\∀ i m σ H,W i m σ H ->
   ((HA K a).stop i H/\D.nx σ H)\/((HA K a).go i H/\∃ N:St->Hp->Prop,(∀ σ' H',N σ' H'->∃ m',m'<m/\W (i+1) m' σ' H')/\∀ x H',(HA K a).yld i H x H'->g x σ H' λσ2 H2=>tb { D with nx:=N,ct:=N,bk:=D.nx } σ2 H2):=by
 refine⟨λi m σ H=>m=xs.length - i/\i<=xs.length/\Pv i σ H,⟨xs.length,by simp,Yk _,h0⟩,?_⟩;rintro i m σ H ⟨rfl,hi,p⟩;have q:=hl i σ H hi p
 by_cases Xe:i<xs.length
 .refine .inr ⟨⟨xs,xs[i],q,by simp[Xe]⟩,Pv (i+1),λσ' H' p'=>⟨xs.length - (i+1),by omega,rfl,Xe,p'⟩,λx H' ⟨T,y,hT,ex,eH,hy⟩=>?_⟩;subst ex eH;exact hs i y σ H T hT (hy xs q) p
 .have e:i=xs.length:=by lia
  subst e;exact .inl ⟨⟨xs,q,XJ _⟩,hd σ H p⟩
theorem tZ{i:Int}(h0:0<=i)(h1:i.toNat<=xs.length):Xh xs (some i) none=xs.drop i.toNat:=by
 have e:HT.VC xs.length 0 (some i)=i.toNat:=by show(if i<0 then (i+(xs.length:Int)).toNat else min i.toNat xs.length)=i.toNat;rw[if_neg (by lia)];lia
 unfold Xh;rw[e,HT.Wa];exact YO (by rw[Wx];exact XJ _)
theorem ER{i:Int}(h0:0<=i)(h1:i.toNat<=xs.length):Xh xs none (some i)=xs.take i.toNat:=by
 have e:HT.VC xs.length xs.length (some i)=i.toNat:=by show(if i<0 then (i+(xs.length:Int)).toNat else min i.toNat xs.length)=i.toNat;rw[if_neg (by omega)];omega
 unfold Xh;rw[e,HT.Wa,xj,Al]
end My
namespace L2
open PySem PySem.Spec PyProof.Rows
section
variable{X:Cx}{a o e:Expr}{es:List Expr}{ta to:TE}{t:TA}{pos:Pos}
theorem Zd(K:Ad)(h:X.K=K:=by rfl):HE X (Fy K):=h ▸ vp
theorem ZJ(K:Ad)(h:X.K=K:=by rfl):HE X (Fx K):=h ▸ vo
theorem Vl(K:Ad)(h:X.K=K:=by rfl):zR X (Fw K):=h ▸ vk
theorem JR(K:Ad)(h:X.K=K:=by rfl):WK X (compareOp .In) (λx y H Q=>∃ p xs,y=.ref p/\(SqL K H p xs\/SqT K H p xs)/\Wn x=true/\xs.all Wn=true/\Q (.bl (HC x xs)) H):=h ▸ vj
theorem ZC(K:Ad)(h:X.K=K:=by rfl):WK X (compareOp .NotIn) (λx y H Q=>∃ p xs,y=.ref p/\(SqL K H p xs\/SqT K H p xs)/\Wn x=true/\xs.all Wn=true/\Q (.bl (!HC x xs)) H):=h ▸ af
theorem tY(K:Ad)(hu:X.A.units+8<cLine)(h:X.K=K:=by rfl):WK X (compareOp .Eq) (Nw K false):=h ▸ ue hu
theorem EO(K:Ad)(hu:X.A.units+8<cLine)(h:X.K=K:=by rfl):WK X (compareOp .NotEq) (Nw K true):=h ▸ ud hu
theorem tX(K:Ad)(h:X.K=K:=by rfl):WK X (binaryOp .Add) (FA K):=h ▸ vw
theorem Zo(K:Ad)(he:PE X e ta)(hb:attributeBase e f X.env (eval e X.env)=eval e X.env)(h:X.K=K:=by rfl):PE X (.Attribute e f pos) (FJ K ta f):=h ▸ vK he hb
theorem Zl (K:Ad) (h:X.K=K:=by rfl):VM X (.builtin "len") (λxs H Q=>∃ p ys,xs=[.ref p]/\(SqL K H p ys\/SqT K H p ys)/\Q (.int ys.length) H):=h ▸ ae
theorem Hy (K:Ad) (h:X.K=K:=by rfl):VM X (.type "list") (λxs H Q=>∃ p ys,xs=[.ref p]/\(SqL K H p ys\/SqT K H p ys)/\∀ l,H l=none->Q (.ref l) (upd H l (.lst ys))):=h ▸ aa
theorem ZG (K:Ad) (h:X.K=K:=by rfl):VM X (.type "tuple") (λxs H Q=>∃ p ys,xs=[.ref p]/\((SqL K H p ys/\∀ l,H l=none->Q (.ref l) (upd H l (.tup ys)))\/(SqT K H p ys/\Q (.ref p) H))):=h ▸ ZY3
theorem tW (K:Ad) (hc:X.calm=true) (h:X.K=K:=by rfl):VM X (.builtin "sum") (λxs H Q=>∃(p:Addr) (ns:Ac),xs=[.ref p]/\SqL K H p (ns.map V.int)/\Q (.int ns.sum) H):=h ▸ ZZ3 hc
theorem ZI(K:Ad)(hl:PE X l tl)(h:X.K=K:=by rfl):PI X tg l (FZ K tl):=h ▸ FW hl
theorem JQ(K:Ad)(hl:PE X l tl)(h:X.K=K:=by rfl):PI X tg l (FY K tl):=h ▸ wa hl
theorem PX(K:Ad)(hl:PE X l tl)(h:X.K=K:=by rfl):PI X tg l (My.EV K tl):=h ▸ My.JV hl
theorem RM (K:Ad) {elts:List Expr} {x1:Nat} {SX:Pos} {a:Expr} {ta:TA} {p pos:Pos} (hg:Gl X "enumerate") (hm:X.mg "enumerate"=none) (ha:PA X [a] ta) (hs:starEach [a] X.env=[(false,eval a X.env)]:=by rfl) (h:X.K=K:=by rfl) :
  PI X (.Tuple elts x1 SX) (.Call (.Name "enumerate" p) [a] [] pos) (EZ K ta):=h ▸ EY hg hm ha hs
theorem PV(K:Ad){es:List Expr}{k:Nat}{t:Qp}{n:Nat}(hc:X.calm=true)(ht:Kv X es t)
  (hn:(assignEach es X.env).length=n:=by rfl) (VE:(assignEach es X.env).findIdx? (·.1)=none:=by rfl) (h:X.K=K:=by rfl):PG X (.Tuple es k pos) (Kt K n t):=h ▸ wj hc ht hn VE
theorem Ui (K:Ad) {name:Str} {apos WY:Pos} {T id:String} {r:V->List V->Hp->VK->Prop} (pa:PlainAttrs T) (slot:Slot T name id) (Kg:typeOf (.builtin id)=pure (.type "method_descriptor")) (hm:zQ X id r) (ho:PE X o to) (ha:PA X (e :: es) t)
  (Vo:attributeBase o name X.env (eval o X.env)=eval o X.env:=by rfl)
  (Kf:((backTo WY (starEach (e :: es) X.env)).all (λx=>!x.1) && (backToKw WY (keywordEach [] X.env)).all (λx=>x.1.isSome)
   && decide ((e :: es).length+([]:List Keyword).length+(if ([]:List Keyword).isEmpty then 0 else 1)<30))=true:=by rfl)
  (Vn:(apos.endLine == WY.line)=true:=by rfl) (hs:starEach (e :: es) X.env=(false,eval e X.env) :: starEach es X.env:=by rfl) (SR:(backTo WY (starEach es X.env)).any (·.1)=false:=by rfl) (h:X.K=K:=by rfl) :
  PE X (.Call (.Attribute o name apos) (e :: es) [] WY) (ib K T r to t):=h ▸ vg pa slot Kg hm ho ha Vo Kf Vn hs SR
theorem EN (K:Ad) {name:Str} {apos WY:Pos} {T id:String} {r:V->List V->Hp->VK->Prop} (pa:PlainAttrs T) (slot:Slot T name id) (Kg:typeOf (.builtin id)=pure (.type "method_descriptor")) (hm:zQ X id r) (ho:PE X o to)
  (Vo:attributeBase o name X.env (eval o X.env)=eval o X.env:=by rfl) (Vn:(apos.endLine == WY.line)=true:=by rfl) (h:X.K=K:=by rfl):PE X (.Call (.Attribute o name apos) [] [] WY) (Fs K T r to):=h ▸ vh pa slot Kg hm ho Vo Vn
end
end L2
namespace My
abbrev mk(m:Ac)(i:Nat):Int:=m.getD i 0
def pm(m:Ac)(a b:Nat):Ac :=
 if min (mk m a) (mk m b)<max (mk m a) (mk m b) then m.map (λk=>if k=max (mk m a) (mk m b) then min (mk m a) (mk m b) else k) else m
def lm(m:Ac)(a b:Nat):Ac :=
 if mk m a≠mk m b then m.map (λk=>if k=mk m b then mk m a else k) else m
def SameP(m l:Ac):Prop:=m.length=l.length/\∀ i j,i<m.length->j<m.length->(mk m i=mk m j↔mk l i=mk l j)
theorem zJ(m:Ac)(f:Int->Int)(h:i<m.length):mk (m.map f) i=f (mk m i):=by simp[mk,WO,Yn,Xu h]
theorem EM(m:Ac)(a b:Nat):(pm m a b).length=m.length:=by unfold pm;split <;> simp
theorem zH(m:Ac)(a b:Nat):(lm m a b).length=m.length:=by unfold lm;split <;> simp
def Hx(m:Ac)(a b i j:Nat):Prop:=mk m i=mk m j\/((mk m i=mk m a\/mk m i=mk m b)/\(mk m j=mk m a\/mk m j=mk m b))
theorem PU{x y p q:Int}:((if x=q then p else x)=(if y=q then p else y))↔(x=y\/((x=p\/x=q)/\(y=p\/y=q))):=by grind
theorem EL{x y p:Int}:x=y↔(x=y\/((x=p\/x=p)/\(y=p\/y=p))):=⟨.inl,λh=>h.elim id λh=>(h.1.elim id id).trans (h.2.elim id id).symm⟩
theorem tT(hi:i<m.length)(hj:j<m.length):mk (pm m a b) i=mk (pm m a b) j↔Hx m a b i j:=by
 unfold pm Hx;split
 .rename_i h;rw[zJ _ _ hi,zJ _ _ hj];by_cases zE:mk m a<mk m b
  .rw[KD (HU zE),xq (HU zE)];exact PU
  .rw[xr (HR.mp zE),KC (HR.mp zE),Or.comm (a:=mk m i=mk m a),Or.comm (a:=mk m j=mk m a)];exact PU
 .rename_i h;have hh:=HR.mp h
  rw[show mk m a=mk m b from Int.le_antisymm (HV (Int.le_max_left _ _) (HV hh (Int.min_le_right _ _))) (HV (Int.le_max_right _ _) (HV hh (Int.min_le_left _ _)))];exact EL
theorem EK(hi:i<m.length)(hj:j<m.length):mk (lm m a b) i=mk (lm m a b) j↔Hx m a b i j:=by
 unfold lm Hx;split
 .rename_i h;rw[zJ _ _ hi,zJ _ _ hj];exact PU
 .rename_i h;rw[show mk m a=mk m b from Classical.not_not.mp h];exact EL
theorem SameP.step{m l:Ac}(s:SameP m l){a b:Nat}(ha:a<m.length)(hb:b<m.length):SameP (pm m a b) (lm l a b):=by obtain⟨hl,h⟩:=s;refine⟨by rw[EM,zH,hl],λi j hi hj=>?_⟩;rw[EM]at hi hj;rw[tT hi hj,EK (by omega) (by omega)];unfold Hx;rw[h i j hi hj,h i a hi ha,h i b hi hb,h j a hj ha,h j b hj hb]
def Xs(n:Nat)(es:List (Nat × Nat)):Ac:=es.foldl (λm e=>pm m e.1 e.2) ((List.range n).map λ(i:Nat)=>(i:Int))
def WH(n:Nat)(es:List (Nat × Nat)):Ac:=es.foldl (λm e=>lm m e.1 e.2) ((List.range n).map λ(i:Nat)=>(i:Int))
theorem ZE(n:Nat)(es:List (Nat × Nat)):(Xs n es).length=n:=by
 have:∀(es:List (Nat × Nat)) (m:Ac),(es.foldl (λm e=>pm m e.1 e.2) m).length=m.length:=by
  intro es
  induction es with
  | nil=>intro m;rfl
  | cons e es ih=>intro m;rw[Av,ih,EM]
 unfold Xs;rw[this];simp
theorem ZS(n:Nat)(es:List (Nat × Nat)):(WH n es).length=n:=by
 have:∀(es:List (Nat × Nat)) (m:Ac),(es.foldl (λm e=>lm m e.1 e.2) m).length=m.length:=by
  intro es
  induction es with
  | nil=>intro m;rfl
  | cons e es ih=>intro m;rw[Av,ih,zH]
 unfold WH;rw[this];simp
theorem EJ(n:Nat)(es:List (Nat × Nat))(e:Nat × Nat):Xs n (es++[e])=pm (Xs n es) e.1 e.2:=by unfold Xs;rw[NU];rfl
theorem LU(n:Nat)(es:List (Nat × Nat))(e:Nat × Nat):WH n (es++[e])=lm (WH n es) e.1 e.2:=by unfold WH;rw[NU];rfl
theorem zD:∀ {es:List (Nat × Nat)},(∀ e∈es,e.1<n/\e.2<n)->SameP (Xs n es) (WH n es):=by
 intro es;have key:∀(es:List (Nat × Nat)) (m l:Ac),SameP m l->m.length=n->(∀ e∈es,e.1<n/\e.2<n)->SameP (es.foldl (λm e=>pm m e.1 e.2) m) (es.foldl (λm e=>lm m e.1 e.2) l):=by
  intro es
  induction es with
  | nil=>intro m l s _ _;exact s
  | cons e es ih =>
   intro m l s hm he;have h1:=he e Yc
   exact ih _ _ (s.step (by omega) (by omega)) (by rwa[EM]) λx hx=>he x (Yf _ hx)
 exact key es _ _ ⟨rfl,λi j _ _=>Iff.rfl⟩ (by simp)
def SO(g:List (Int × Ac))(place k:Int):List (Int × Ac) :=
 if k∈g.map (·.1) then g.map (λkv=>if kv.1=k then (kv.1,kv.2++[place]) else kv) else g++[(k,[place])]
def Xp(M:Ac):Nat->List (Int × Ac)
 | 0=>[]
 | i+1=>SO (Xp M i) (i:Int) (mk M i)
def JP(M:Ac):List (Int × Ac):=Xp M M.length
theorem Nv(g:List (Int × Ac))(p k:Int):(SO g p k).map (·.1)=if k∈g.map (·.1) then g.map (·.1) else g.map (·.1)++[k]:=by
 unfold SO;split
 .rw[Mm];refine VU λkv _=>?_;show(if kv.1=k then (kv.1,kv.2++[p]) else kv).1=kv.1
  split <;> rfl
 .simp
theorem ZR5(h:(g.map (·.1)).Nodup):((SO g p k).map (·.1)).Nodup:=by
 rw[Nv];split
 .exact h
 .rename_i hk;rw[Wr];refine⟨h,by simp,λa ha b hb=>?_⟩;rw[XC]at hb;subst hb;rintro rfl;exact hk ha
theorem tS(M:Ac):∀ i,((Xp M i).map (·.1)).Nodup
 | 0=>by simp[Xp]
 | i+1=>ZR5 (tS M i)
theorem Vk(M:Ac):∀ i kv,kv∈Xp M i->∀ z:Int,z∈kv.2↔(0<=z/\z<(i:Int)/\mk M z.toNat=kv.1)
 | 0,kv,h,z=>by simp[Xp]at h
 | i+1,kv,h,z=>by
  unfold Xp SO at h;split at h
  .rename_i hk;obtain⟨zC,h0,e⟩:=YD.mp h;have ih:=Vk M i zC h0 z
   by_cases hc:zC.1=mk M i
   .rw[if_pos hc]at e;subst e;rw[Xr,ih,XC];constructor
    .rintro(⟨a,b,c⟩ | rfl)
     .exact⟨a,by lia,c⟩
     .exact⟨by lia,by lia,by simpa using hc.symm⟩
    .rintro⟨a,b,c⟩;by_cases hz:z<(i:Int)
     .exact .inl ⟨a,hz,c⟩
     .exact .inr (by lia)
   .rw[if_neg hc]at e;subst e;rw[ih];constructor
    .rintro⟨a,b,c⟩;exact⟨a,by omega,c⟩
    .rintro⟨a,b,c⟩;refine⟨a,?_,c⟩;by_cases hz:z<(i:Int)
     .exact hz
     .have e:z.toNat=i:=by grind
      rw[e]at c;exact absurd c.symm hc
  .rename_i hk;rcases Xr.mp h with h0 | h0
   .have ih:=Vk M i kv h0 z;rw[ih];constructor
    .rintro⟨a,b,c⟩;exact⟨a,by lia,c⟩
    .rintro⟨a,b,c⟩;refine⟨a,?_,c⟩;by_cases hz:z<(i:Int)
     .exact hz
     .have e:z.toNat=i:=by grind
      rw[e]at c;exact absurd (YD.mpr ⟨kv,h0,c.symm⟩) hk
   .rw[XC]at h0;subst h0;simp only [XC];constructor
    .rintro rfl;exact⟨by lia,by lia,by simp⟩
    .rintro⟨a,b,c⟩;by_cases hz:z<(i:Int)
     .exfalso;have key:=grpA_key M i z.toNat (by lia)
      rw[c]at key;exact hk key
     .lia
where
 grpA_key (M:Ac):∀ i j,j<i->mk M j∈(Xp M i).map (·.1)
  | 0,j,h=>absurd h (Wq j)
  | i+1,j,h=>by
   show mk M j∈(SO (Xp M i) (i:Int) (mk M i)).map (·.1);rw[Nv];by_cases hj:j<i
   .have:=grpA_key M i j hj
    split
    .exact this
    .exact Ye _ this
   .have e:j=i:=by lia
    subst e;split
    .assumption
    .simp
theorem grpA_key(h:j<i):mk M j∈(Xp M i).map (·.1):=Vk.grpA_key M i j h
theorem zB(M:Ac):∀ i k,k∈(Xp M i).map (·.1)->∃ j,j<i/\mk M j=k
 | 0,k,h=>by simp[Xp]at h
 | i+1,k,h=>by
  have h:k∈(SO (Xp M i) (i:Int) (mk M i)).map (·.1):=h;rw[Nv]at h;have old:k∈(Xp M i).map (·.1)->∃ j,j<i+1/\mk M j=k:=λq=>by obtain⟨j,hj,e⟩:=zB M i k q;exact⟨j,by lia,e⟩
  split at h
  .exact old h
  .rcases Xr.mp h with q | q
   .exact old q
   .rw[XC]at q;exact⟨i,by lia,q.symm⟩
theorem gO(hM:1<=M.length):(JP M).length=1↔∀ i j,i<M.length->j<M.length->mk M i=mk M j:=by
 unfold JP;constructor
 .intro h i j hi hj;obtain⟨kv,e⟩:=List.length_eq_one_iff.mp h;have h1:=grpA_key (M:=M) hi
  have h2:=grpA_key (M:=M) hj;rw[e]at h1 h2;rw[xC,XC]at h1 h2;rw[h1,h2]
 .intro h;have nd:=tS M M.length
  have h0:=grpA_key (M:=M) (i:=M.length) (j:=0) (by lia);generalize hg:(Xp M M.length)=g at *
  match g,hg with
  | [],_=>simp at h0
  | [kv],_=>rfl
  | a :: b :: r,hg =>
   exfalso;obtain⟨i,hi,e1⟩:=zB M M.length a.1 (by rw[hg];simp)
   obtain⟨j,hj,e2⟩:=zB M M.length b.1 (by rw[hg];simp);have e3:=h i j hi hj
   have:a.1=b.1:=by rw[<- e1,<- e2,e3]
   simp[this]at nd
theorem SameP.one(s:SameP m l):(∀ i j,i<m.length->j<m.length->mk m i=mk m j)↔(∀ i j,i<l.length->j<l.length->mk l i=mk l j):=by
 obtain⟨hl,h⟩:=s;rw[<- hl];constructor
 .intro q i j hi hj;exact(h i j hi hj).mp (q i j hi hj)
 .intro q i j hi hj;exact(h i j hi hj).mpr (q i j hi hj)
theorem tR:∀ {i:Nat} {kv:Int × Ac},kv∈Xp M i->kv.2.length<=i
 | 0,kv,h=>by simp[Xp]at h
 | i+1,kv,h=>by
  unfold Xp SO at h;split at h
  .obtain⟨zC,h0,e⟩:=YD.mp h;have ih:=tR h0
   by_cases hc:zC.1=mk M i
   .rw[if_pos hc]at e;subst e;rw[Xv,Yp];lia
   .rw[if_neg hc]at e;subst e;lia
  .rcases Xr.mp h with h0 | h0
   .have ih:=tR h0;omega
   .rw[XC]at h0;subst h0;simp
end My
namespace My
open PySem L2 PyProof.Rows
theorem Zy(z:Int)(l:Ac):HC (.int z) (IL l)=decide (z∈l):=by
 unfold HC;rw[List.any_map];rw[Sa,GD,YM];constructor
 .rintro⟨y,hy,e⟩;have e':y=z:=by simpa [Tp] using e
  rwa[<- e']
 .intro h;exact⟨z,h,by simp[Tp]⟩
theorem Zq(l:Ac):(IL l).all Wn=true:=by rw[List.all_map,Sb];intro x _;rfl
theorem ZD:decide (V.int a=V.int b)=decide (a=b):=by
 by_cases h:a=b
 .subst h;simp
 .have h':¬ V.int a=V.int b:=λz=>h (V.int.inj z);rw[YT h,YT h']
theorem FQ:decide (V.bl a=V.bl b)=decide (a=b):=by
 by_cases h:a=b
 .subst h;simp
 .have h':¬ V.bl a=V.bl b:=λz=>h (V.bl.inj z);rw[YT h,YT h']
end My
namespace My
open PySem L2
def IsSet(m:Nat)(ns:Ac):Prop:=∀ i z,ns[i]?=some z->0<=z/\z<(m:Int)/\∀ y,i≠0->ns[i - 1]?=some y->y<z
def XQ(ps:Aa)(ns:Ac):List (Nat × Nat):=ns.map λz=>((ps.getD z.toNat (0,0)).1.toNat,(ps.getD z.toNat (0,0)).2.toNat)
theorem ZU5{ns:Ac}{z:Int}(h:ns[i]?=some z):XQ ps (ns.take (i+1))=XQ ps (ns.take i)++[((ps.getD z.toNat (0,0)).1.toNat,(ps.getD z.toNat (0,0)).2.toNat)]:=by unfold XQ;rw[YL,h];simp
theorem Ox(h:i<m.length):m[i]?=some (mk m i):=by rw[Xu h];simp[mk,WO,Xu h]
theorem tQ(n:Int):TX 0 n=(List.range n.toNat).map λ(i:Nat)=>(i:Int):=by unfold TX;rw[Int.sub_zero];refine VU λi _=>?_;lia
def UY(g:List (Int × Ac))(as:List Addr):List (Key × V):=List.zipWith (λkv a=>((Sum.inl kv.1:Key),V.ref a)) g as
theorem tP(h:as.length=g.length):(UY g as).length=g.length:=by unfold UY;rw[Od];grind
theorem gN:∀ {g:List (Int × Ac)} {as:List Addr},as.length=g.length->(UY g as).map (·.2)=as.map V.ref
 | [],[],_=>rfl
 | [],_ :: _,h=>by simp at h
 | _ :: _,[],h=>by simp at h
 | kv :: g,a :: as,h=>by show V.ref a :: (UY g as).map (·.2)=V.ref a :: as.map V.ref;rw[gN (NY h)]
theorem gM:∀ {g g':List (Int × Ac)} {as:List Addr},g.map (·.1)=g'.map (·.1)->UY g as=UY g' as
 | [],[],_,_=>rfl
 | [],_ :: _,_,h=>by simp at h
 | _ :: _,[],_,h=>by simp at h
 | kv :: g,zA :: g',[],_=>rfl
 | kv :: g,zA :: g',a :: as,h=>by
  rw[WL,WL,List.cons.injEq]at h;show((Sum.inl kv.1:Key),V.ref a) :: UY g as=((Sum.inl zA.1:Key),V.ref a) :: UY g' as
  rw[h.1,gM h.2]
theorem EI:∀ {g:List (Int × Ac)} {as:List Addr} {kv:Int × Ac} {a:Addr},as.length=g.length->UY (g++[kv]) (as++[a])=UY g as++[((Sum.inl kv.1:Key),V.ref a)]
 | [],[],_,_,_=>rfl
 | [],_ :: _,_,_,h=>by simp at h
 | _ :: _,[],_,_,h=>by simp at h
 | x :: g,y :: as,kv,a,h=>by show _ :: UY (g++[kv]) (as++[a])=_ :: (UY g as++_);rw[EI (NY h)]
theorem JO:∀ {g:List (Int × Ac)} {as:List Addr} {k:Int},as.length=g.length ->
  (Wy (UY g as) (Sum.inl k:Key)=none/\k∉g.map (·.1))\/∃(j:Nat) (kv:Int × Ac) (a:Addr),g[j]?=some kv/\as[j]?=some a/\kv.1=k/\Wy (UY g as) (Sum.inl k:Key)=some (.ref a)
 | [],[],k,_=>.inl ⟨rfl,by simp⟩
 | [],_ :: _,_,h=>by simp at h
 | _ :: _,[],_,h=>by simp at h
 | kv :: g,a :: as,k,h=>by
  by_cases e:kv.1=k
  .refine .inr ⟨0,kv,a,rfl,rfl,e,?_⟩;show Wy (((Sum.inl kv.1:Key),V.ref a) :: UY g as) _=_
   rw[Ke (by rw[e])]
  .have e':¬ ((Sum.inl kv.1:Key)=Sum.inl k):=λz=>e (Sum.inl.inj z);have ev:Wy (UY (kv :: g) (a :: as)) (Sum.inl k:Key)=Wy (UY g as) (Sum.inl k:Key):=Kd (p:=((Sum.inl kv.1:Key),V.ref a)) e'
   rcases JO (g:=g) (as:=as) (k:=k) (NY h) with ⟨h1,h2⟩ | ⟨j,zA,a',h1,h2,h3,h4⟩
   .refine .inl ⟨by rw[ev];exact h1,?_⟩;rw[WL,Yh];rintro(z | z)
    .exact e z.symm
    .exact h2 z
   .exact .inr ⟨j+1,zA,a',by simpa using h1,by simpa using h2,h3,by rwa[ev]⟩
structure GrpAt (H0 H:Hp) (g:List (Int × Ac)) (as:List Addr):Prop where
 len:as.length=g.length
 nd:as.Nodup
 at_:∀(i:Nat) (kv:Int × Ac) (a:Addr),g[i]?=some kv->as[i]?=some a->H a=some (.lst (IL kv.2))
 new:∀ a∈as,H0 a=none
theorem GrpAt.same(s:Same H H')(h:GrpAt H0 H g as):GrpAt H0 H' g as:=⟨h.len,h.nd,λi kv a e1 e2=>s _ _ (h.at_ i kv a e1 e2),h.new⟩
theorem GrpAt.mem(h:GrpAt H0 H g as){a:Addr}(ha:a∈as):∃ l,H a=some (.lst l):=by
 obtain⟨i,hi,e⟩:=RW ha;have hg:i<g.length:=by rwa[<- h.len]
 exact⟨_,h.at_ i g[i] a (Xu hg) (by rw[Xu hi,e])⟩
theorem IsSet.all(h:IsSet m ns):∀ z∈ns,0<=z/\z<(m:Int):=λz hz=>by obtain⟨i,hi,e⟩:=RW hz;obtain⟨a,b,_⟩:=h i z (by rw[Xu hi,e]);exact⟨a,b⟩
theorem IsSet.nil(m:Nat):IsSet m []:=λi z e=>by simp at e
theorem IsSet.up(h:IsSet m ns):IsSet (m+1) ns:=λi z e=>by obtain⟨a,b,c⟩:=h i z e;exact⟨a,by omega,c⟩
theorem IsSet.snoc(h:IsSet m ns):IsSet (m+1) (ns++[(m:Int)]):=λi z e=>by
 by_cases hi:i<ns.length
 .rw[Yu hi]at e;obtain⟨a,b,c⟩:=h i z e;refine⟨a,by lia,λy h0 ey=>?_⟩;rw[Yu (by omega)]at ey;exact c y h0 ey
 .have hl:i=ns.length:=by
   have:=(Xm.mp e).1
   rw[Xv,Yp]at this;lia
  subst hl;rw[Ys (XJ _),QE]at e;have e:(m:Int)=z:=Yi e
  subst e;refine⟨by lia,by lia,λy h0 ey=>?_⟩;rw[Yu (by omega)]at ey;exact(h _ y ey).2.1
theorem IsSet.len:∀ {ns:Ac},IsSet m ns->ns.length<=m:=λ{ns} h=>by
 have key:∀(i:Nat) (z:Int),ns[i]?=some z->(i:Int)<=z:=by
  intro i
  induction i with
  | zero=>intro z e;exact(h 0 z e).1
  | succ i ih =>
   intro z e;have hi:i<ns.length:=by have:=(Xm.mp e).1;lia
   have e2:ns[i]?=some ns[i]:=Xu hi
   have:=ih _ e2
   have:=(h (i+1) z e).2.2 ns[i] (by lia) (by rwa[xD])
   lia
 by_cases h0:ns.length=0
 .lia
 .have e:ns[ns.length - 1]?=some (ns[ns.length - 1]'(by lia)):=Xu _;have a:=key _ _ e
  have b:=(h _ _ e).2.1;lia
end My
namespace L2
open PySem PySem.Spec PyProof.Rows
section
variable{X:Cx}
def tO(K:Ad):V->List V->Hp->VK->Prop:=λx vs H Q=>∃(p:Addr) (ns:Ac) (z:Int) (j:Nat),x=.ref p/\vs=[.int z]/\SqL K H p (ns.map V.int)/\ns[j]?=some z/\(∀ i,i<j->ns[i]?≠some z)/\Q (.int j) H
theorem Ze8 (K:Ad) (h:X.K=K:=by rfl):NC X "list.index" (tO K):=by
 subst h;intro pins s σ H x vs v us Q I rx rv h;obtain⟨p,ns,z,j,rfl,rfl,hq,hj,To,q⟩:=h;cases rx;obtain⟨u,rfl,t,rfl⟩:=rv.one;obtain⟨XW,r,⟨o,n,e,hc,hd,JN⟩,hz⟩:=I.list hq;have hl:XW.length=ns.length:=by rw[<- r.length,Ya]
 have Ow:j<ns.length:=(Xm.mp hj).1;have hsz:sizeLine=16777216:=Sx
 rw[Ya]at hz;obtain⟨oc,od,tN,Um⟩:=o;have hc:oc=.type "list":=hc
 have JN:tN=.seq XW.toArray n:=JN;subst hc JN;have at_:∀(i:Nat) (hi:i<XW.length),∃ tk,XW[i]=.int (ns[i]'(by lia)) tk:=λi hi=>by
  obtain⟨x,ex,rx⟩:=r.at hi;rw[Yn,Xu (by omega)]at ex;have ex:V.int (ns[i]'(by omega))=x:=Yi ex
  subst ex;exact rx
 refine NV F.slot_list_index ⟨_,e,rfl⟩ F.entry_list_index (F.args_list_index_2 _ _) (SeqAt.list_indexAt p XW.toArray n od Um (.int z t) (λy=>Uj (.int z) y) j (by rw[Yb];lia) (by lia) ?_ ?_) ⟨e,λy hy=>?_,?_⟩
 .obtain⟨tk,e1⟩:=at_ j (by omega);have e2:ns[j]'(by lia)=z:=by rw[Xu Ow]at hj;exact Yi hj
  have e3:XW.toArray[j]'(by rw[Yb];lia)=.int z tk:=by rw[<- e2];simpa using e1
  rw[e3];simp[Uj,Tp]
 .intro m hm hmj;have LS:m<XW.length:=by rwa[Yb]at hm
  obtain⟨tk,e1⟩:=at_ m LS;have e3:XW.toArray[m]'hm=.int (ns[m]'(by omega)) tk:=by simpa using e1
  rw[e3];have XH:=To m hmj
  rw[Xu (by omega)]at XH;have JM:ns[m]'(by omega)≠z:=λw=>XH (Xx some w)
  simp[Uj,Tp,JM]
 .refine HD (x:=.int z) ⟨t,rfl⟩ rfl r ?_ y (by simpa using hy);rw[List.all_map,Sb];intro _ _;rfl
 .exact⟨.int j,H,I.tok _,⟨_,rfl⟩,q⟩
theorem ZE5{XW:Array Value}{bs:List Bool}(h:∀(i:Nat) (v:Value),XW[i]?=some v->∃ b,bs[i]?=some b/\v=.bool b):TruthOf prog w A (λi v=>XW[i]?=some v) (λi=>bs.getD i false):=by
 intro i v s Q E hP hQ;obtain⟨b,eb,rfl⟩:=h i v hP;have hQ:Q (bs.getD i false) s:=hQ
 rw[WO,eb]at hQ;exact QF hQ
theorem tL(bs:List Bool):(List.range bs.length).any (λi=>bs.getD i false)=bs.any id:=by
 rw[Sa,GD,GD];constructor
 .rintro⟨i,hi,e⟩;have hi:=YI.mp hi
  rw[WO,Xu hi]at e;exact⟨_,Oc hi,e⟩
 .rintro⟨b,hb,e⟩;obtain⟨i,hi,ei⟩:=RW hb;refine⟨i,YI.mpr hi,?_⟩;rwa[WO,Xu hi,ei]
theorem EH{bs:List Bool}(r:Vals (bs.map V.bl) XW):∀(i:Nat) (v:Value),XW.toArray[i]?=some v->∃ b,bs[i]?=some b/\v=.bool b:=λi v e=>by
 have e:XW[i]?=some v:=by simpa using e
 have hi:i<XW.length:=(Xm.mp e).1;obtain⟨x,ex,rx⟩:=r.at hi;rw[Yn]at ex;cases eb:bs[i]? with
 | none=>rw[eb]at ex;cases ex
 | some b =>
  rw[eb]at ex;have ex:V.bl b=x:=Yi ex
  subst ex;rw[Xu hi]at e;have e:XW[i]=v:=Yi e
  rw[e]at rx;exact⟨b,rfl,rx⟩
theorem ZJ8 (K:Ad) (hc:X.calm=true) (h:X.K=K:=by rfl):VM X (.builtin "any") (λxs H Q=>∃(p:Addr) (bs:List Bool),xs=[.ref p]/\SqL K H p (bs.map V.bl)/\Q (.bl (bs.any id)) H):=by
 subst h;intro pins s σ H xs us Q I r h;obtain⟨p,bs,rfl,hq,q⟩:=h;obtain⟨u,rfl,ru⟩:=WJ r;obtain rfl:u=Value.ref p:=ru;obtain⟨XW,rv,pl,hz⟩:=I.list hq;have hl:XW.toArray.size=bs.length:=by rw[Yb,<- rv.length,Ya]
 have XH:p≠s.heap.objs.size:=Yz (let ⟨_,_,e,_⟩:=pl;Yq e);refine call_any_walk (Aw pl.isList ⟨s.heap.objs.size,_,_,_,_,_,_,rfl,Walks.list (A:=X.A.in1) (I.ok.hd hc) s.heap.objs.size p XH XW.toArray,⟨⟨_,Yl _ rfl,rfl,rfl⟩,pl.isList.push _⟩,ZE5 (EH rv),λh' tk hk=>?_⟩);rw[hl,tL];refine⟨.bl (bs.any id),H,I.kept λb o e=>hk b o ?_ (WZ _ e),rfl,q⟩;intro z;rw[XC.mp z]at e;exact absurd (Yq e) (RZ _)
end
end L2
namespace My
open PySem L2
section
variable{K:Ad}{H:Hp}{α:Type}[DecidableEq α]
def Bears(R:V->α->Prop)(xs:List V)(l:List α):Prop:=xs.length=l.length/\∀(i:Nat) (a:α),l[i]?=some a->∃ x,xs[i]?=some x/\R x a
theorem Bears.at{R:V->α->Prop}(h:Bears R xs l){i:Nat}{x:V}(e:xs[i]?=some x):∃ a,l[i]?=some a/\R x a:=by
 have hi:i<xs.length:=(Xm.mp e).1;have hl:i<l.length:=by rwa[<- h.1]
 obtain⟨x',e1,q⟩:=h.2 i l[i] (Xu hl);rw[e]at e1;cases e1;exact⟨_,Xu hl,q⟩
theorem gL{l m:List α}(h:l.length=m.length):(List.range l.length).all (λi=>decide (l[i]?=m[i]?))=decide (l=m):=by
 rw[Sa,Sb,YM];constructor
 .intro q;refine Ib λi=>?_;by_cases hi:i<l.length
  .exact Yo (q i (YI.mpr hi))
  .rw[Vq (by lia),Vq (by lia)]
 .rintro rfl i _;simp
theorem ZD8{R:V->α->Prop}(hp:SqL K H p xs)(hq:SqL K H q ys)(h1:Bears R xs l)(h2:Bears R ys m)(hR:∀ x y a b,R x a->R y b->EqD K H n x y (decide (a=b))):EqD K H (n+1) (.ref p) (.ref q) (decide (l=m)):=by
 by_cases hl:xs.length=ys.length
 .have e:=gL (l:=l) (m:=m) (by rw[<- h1.1,<- h2.1,hl]);rw[<- e,<- h1.1];refine EqD.lsts hp hq hl λi x y ex ey=>?_;obtain⟨a,ea,ra⟩:=h1.at ex;obtain⟨b,eb,rb⟩:=h2.at ey;rw[ea,eb,show decide (some a=some b)=decide (a=b) by simp];exact hR x y a b ra rb
 .have e:decide (l=m)=false:=YT λz=>hl (by rw[h1.1,h2.1,z]);rw[e];exact EqD.lens hp hq hl
theorem tK{R:V->α->Prop}(hp:SqT K H p xs)(hq:SqT K H q ys)(h1:Bears R xs l)(h2:Bears R ys m)(hR:∀ x y a b,R x a->R y b->EqD K H n x y (decide (a=b))):EqD K H (n+1) (.ref p) (.ref q) (decide (l=m)):=by
 have key:=EqD.tups (e:=λi=>decide (l[i]?=m[i]?)) hp hq λi x y ex ey=>by obtain⟨a,ea,ra⟩:=h1.at ex;obtain⟨b,eb,rb⟩:=h2.at ey;rw[ea,eb,show decide (some a=some b)=decide (a=b) by simp];exact hR x y a b ra rb
 by_cases hl:xs.length=ys.length
 .have e:=gL (l:=l) (m:=m) (by rw[<- h1.1,<- h2.1,hl]);rwa[<- hl,Nat.min_self,h1.1,e,show(l.length == l.length)=true by simp,Bool.and_true]at key
 .have e:decide (l=m)=false:=YT λz=>hl (by rw[h1.1,h2.1,z]);rw[show(xs.length == ys.length)=false by simpa using hl,Bool.and_false]at key;rwa[e]
theorem Nu(ns:Ac):Bears (λx (z:Int)=>x=.int z) (IL ns) ns:=⟨XB ns,λi z e=>⟨_,WI e,rfl⟩⟩
theorem gK{a b:Int}(hx:x=.int a)(hy:y=.int b):EqD K H n x y (decide (a=b)):=by
 subst hx hy;have e:decide (a=b)=Tp (.int a) (.int b):=by show decide (a=b)=(a == b);rw[Bool.beq_eq_decide_eq]
 rw[e];exact EqD.flat rfl rfl
theorem gJ(hp:SqL K H p (IL ns))(hq:SqL K H q (IL ms)):EqD K H 1 (.ref p) (.ref q) (decide (ns=ms)) :=
 ZD8 hp hq (Nu ns) (Nu ms) λ_ _ _ _=>gK
theorem ZC8(hp:SqT K H p (IL ns))(hq:SqT K H q (IL ms)):EqD K H 1 (.ref p) (.ref q) (decide (ns=ms)) :=
 tK hp hq (Nu ns) (Nu ms) λ_ _ _ _=>gK
def VR(H:Hp)(v:V)(l:Ac):Prop:=∃ a,v=.ref a/\H a=some (.lst (IL l))
end
end My
namespace My
def Wv(M:Ac)(p:Nat):Bool:=(List.range p).all λi=>decide (mk M i≠mk M p)
def UX(M:Ac)(k:Int)(i:Nat):Ac:=((List.range i).filter λj=>decide (mk M j=k)).map λ(j:Nat)=>(j:Int)
def VB(M:Ac)(i:Nat):List Nat:=(List.range i).filter (Wv M)
theorem Xz:Wv M p=true↔∀ i,i<p->mk M i≠mk M p:=by
 unfold Wv;rw[Sb];constructor
 .intro h i hi;exact Yo (h i (YI.mpr hi))
 .intro h i hi;exact Yr (h i (YI.mp hi))
theorem tJ(M:Ac)(k:Int)(i:Nat):UX M k (i+1)=UX M k i++(if mk M i=k then [(i:Int)] else []):=by
 unfold UX;rw[GB,Rf,YJ];congr 1;by_cases h:mk M i=k
 .rw[if_pos h,YN,if_pos (by simpa using h)];rfl
 .rw[if_neg h,YN,if_neg (by simpa using h)];rfl
theorem gI(M:Ac)(i:Nat):VB M (i+1)=VB M i++(if Wv M i=true then [i] else []):=by
 unfold VB;rw[GB,Rf];congr 1;by_cases h:Wv M i=true
 .rw[if_pos h,YN,if_pos h];rfl
 .rw[if_neg h,YN,if_neg h];rfl
theorem gH(M:Ac):∀ i,Xp M i=(VB M i).map λp=>(mk M p,UX M (mk M p) i)
 | 0=>rfl
 | i+1=>by
  have ih:=gH M i;show SO (Xp M i) (i:Int) (mk M i)=_
  have hk:(mk M i∈(Xp M i).map (·.1))↔Wv M i≠true:=by
   constructor
   .intro h q;obtain⟨j,hj,e⟩:=zB M i _ h;exact Xz.mp q j hj e
   .intro h;by_cases q:∃ j,j<i/\mk M j=mk M i
    .obtain⟨j,hj,e⟩:=q;rw[<- e];exact grpA_key hj
    .exact absurd (Xz.mpr λj hj e=>q ⟨j,hj,e⟩) h
  unfold SO;by_cases h:mk M i∈(Xp M i).map (·.1)
  .have hf:=hk.mp h;rw[if_pos h,gI,if_neg hf,YE,ih,Mm];refine VU λp _=>?_;show(if mk M p=mk M i then (mk M p,UX M (mk M p) i++[(i:Int)]) else (mk M p,UX M (mk M p) i))=(mk M p,UX M (mk M p) (i+1))
   rw[tJ];by_cases e:mk M p=mk M i
   .rw[if_pos e,if_pos e.symm]
   .rw[if_neg e,if_neg (λz=>e z.symm),YE]
  .have hf:Wv M i=true:=by
    cases q:Wv M i with
    | true=>rfl
    | false=>exact absurd (hk.mpr (by rw[q];exact Yy)) h
   rw[if_neg h,gI,if_pos hf,YJ,ih];congr 1
   .refine VU λp hp=>?_;have PR:p<i:=YI.mp (Yd.mp hp).1
    rw[tJ,if_neg (λz=>Xz.mp hf p PR z.symm),YE]
   .show [(mk M i,[(i:Int)])]=[(mk M i,UX M (mk M i) (i+1))];rw[tJ,if_pos rfl];have e0:UX M (mk M i) i=[]:=by unfold UX;rw[xN.mpr λj hj=>by simpa using Xz.mp hf j (YI.mp hj)];rfl
    rw[e0];rfl
end My
namespace My
open PySem L2
theorem Bears.snoc{α:Type}[DecidableEq α]{R:V->α->Prop}{xs:List V}{l:List α}{x:V}{a:α}(h:Bears R xs l)(hx:R x a):Bears R (xs++[x]) (l++[a]):=by
 refine⟨by rw[Xv,Xv,h.1];rfl,λi b e=>?_⟩;by_cases hi:i<l.length
 .rw[Yu hi]at e;rw[Yu (by rwa[h.1])];exact h.2 i b e
 .have hl:i=l.length:=by
   have:=(Xm.mp e).1
   rw[Xv,Yp]at this;lia
  subst hl;rw[Ys (XJ _),QE]at e;rw[Ys (by rw[h.1];exact XJ _),h.1,QE];have e':a=b:=Yi e
  subst e';exact⟨x,rfl,hx⟩
theorem Bears.imp{α:Type}[DecidableEq α]{R R':V->α->Prop}{xs:List V}{l:List α}(h:Bears R xs l)(f:∀ x a,R x a->R' x a):Bears R' xs l:=⟨h.1,λi a e=>let ⟨x,e1,r⟩:=h.2 i a e;⟨x,e1,f x a r⟩⟩
end My
namespace L2
open PySem PySem.Spec PyProof.Rows
theorem Zk8{a:Int}(h1:-(10 ^ 70)<a)(h2:a<10 ^ 70):a.natAbs.log2<1920:=by
 have h:a.natAbs<10 ^ 70:=by omega
 by_cases h0:a.natAbs=0
 .rw[h0];decide
 .exact(Nat.log2_lt h0).mpr (Nat.lt_trans h (by decide))
end L2
namespace My
open PySem L2
theorem EG{p1 p2:Addr}(h1:H p1=some (.lst (IL l1)))(h2:H p2=some (.lst (IL l2)))(hl:l1.length+l2.length<=1000000)(k:∀ r,H r=none->Q (.ref r) (upd H r (.lst (IL (l1++l2))))):Fp (.ref p1) (.ref p2) H Q:=by
 refine⟨p1,p2,_,_,rfl,rfl,h1,h2,?_,λr hr=>?_⟩
 .rw[XB,XB];exact OA hl
 .have:=k r hr
  rwa[zM]at this
end My
namespace L2
open PySem PySem.Spec PyProof.Rows
theorem PQ:∀ {us:Ag} {ns:Ac},IntsAre us ns->Vals (ns.map V.int) us
 | [],[],_=>.nil
 | _ :: _,[],h=>by cases h
 | [],_ :: _,h=>by cases h
 | u :: us,n :: ns,h=>by
  cases h with
  | cons _ _ t=>exact .cons ⟨_,rfl⟩ (PQ t)
theorem Vals.rev:∀ {xs:List V} {us:Ag},Vals xs us->Vals xs.reverse us.reverse
 | _,_,.nil=>.nil
 | _,_,.cons r t=>by rw[xB,xB];exact(Vals.rev t).append (.cons r .nil)
section
variable{X:Cx}
theorem zz (K:Ad) (hk:X.K=K:=by rfl):VM X (.builtin "sorted") (λxs H Q=>∃(p:Addr) (ns:Ac),xs=[.ref p]/\SqL K H p (ns.map V.int)/\ns.length<64 /\
  ∀ ms:Ac,ms.Perm ns->ms.Pairwise (·<=·)->∀ l,H l=none->Q (.ref l) (upd H l (.lst (ms.map V.int)))):=by
 subst hk;intro pins s σ H xs us Q I r h;obtain⟨p,ns,rfl,hq,hn,q⟩:=h;obtain⟨u,rfl,ru⟩:=WJ r;obtain rfl:u=Value.ref p:=ru;obtain⟨XW,rv,pl,hz⟩:=I.list hq;have hi:=ZL rv
 have hl:XW.length=ns.length:=by rw[<- rv.length,Ya]
 refine sorted_ints pl.isList hi (by lia) λout ms h1 h2 h3=>?_;obtain⟨e,he⟩:=sortedAll_at s.heap XW out;have Ov:ms.length=ns.length:=h2.length_eq
 refine⟨.ref (s.heap.objs.size+1),_,I.laid (t':=s.toks) (o:=.lst (ms.map V.int)) (λb o g=>sortedAll_old g) (Uq _) ⟨?_,out.toList,e,PQ h1,?_⟩,rfl,q ms h2 h3 _ (I.hok.fresh (Uq _))⟩
 .rw[Ya,Ov]
  have:sizeLine=16777216:=Sx
  lia
 .exact he
theorem tI:typeLookup (.type "list_reverseiterator") "__length_hint__"=pure (some (.builtin "list_reverseiterator.__length_hint__")):=by rw [HY,Ie];kernel_rfl
theorem Za8:typeLookup (.type "list_reverseiterator") "__len__"=pure none:=by rw [HY,Ie];kernel_rfl
theorem tH {E:Ae} {s:Shared} {r:Addr} {Q:Bool->Shared->Prop} (hT:s.TypeIs (.ref r) "list_reverseiterator") (h:Q false s):wpAny (model prog w) A (Builtin.List.listLengthHint (.ref r)) Q E s:=by
 unfold Builtin.List.listLengthHint;refine XT (wpAny_specialOf hT Za8 ?_);show wpAny _ A (specialOf (Value.ref r) (Str.ofString "__length_hint__") >>= _) _ _ _
 refine XT (wpAny_specialOf hT tI ?_);generalize EF:("list_reverseiterator.__length_hint__":String)=tG
 wp_delta
 rw [show splitId tG=some ("list_reverseiterator","__length_hint__") from by subst EF;decide +kernel];subst EF;refine XT (Ar (T:="list_reverseiterator") (b:=true) hT (by rw [Am];kernel_rfl) ?_);exact Ym h
section
variable{prog:Program}{w:World}{A:Around}{E:Ae}{s:Shared}{it a:Addr}{items:Array Value}
theorem ZV6{R:Result->Shared->Prop}(hh:A.handled=none)(hi:s.heap.IsRevIter it a ((items.size:Int) - 1))(hl:s.heap.IsList a items)(XH:a≠it){S:Addr}(h1:S≠it)(h2:S≠a){c0:Nat}
  (hS:s.heap.get? S=some { cls:=.type "list",data:=.seq #[] c0 }) (hz:items.size<=sizeLine)
  (k:∀ h' tk acc c,(∀ b o,b≠S->b≠it->s.heap.get? b=some o->h'.get? b=some o)->h'.get? S=some { cls:=.type "list",dict:=none,data:=.seq acc c,slots:=#[] }->ItemsOf (λi v=>items[items.size - 1 - i]?=some v) acc items.size->R (.ok (.ret res)) { s with heap:=h',toks:=tk }) :
  wpAny (model prog w) A.in1 (Builtin.List.listExtendWith (.ref S) (.ref it) res)
   (λfin s'=>match fin with | .done f=>R (.ok f) s' | .again c'=>c'.quiet=true/\codeAny (model prog w) A c' R s') (λe s'=>R (.error e) s') s:=by
 have W:=Walks.listRev (prog:=prog) (w:=w) (A:=A.in1) hh it a XH items;have SN:S∉[it,a]:=by simp only [Yh,xt,or_false,not_or];exact⟨h1,h2⟩
 have Hw:(0<=items.size/\s.heap.IsRevIter it a ((items.size:Int) - 1 - ((0:Nat):Int))/\s.heap.IsList a items):=⟨Yk _,by rw[show((items.size:Int) - 1 - ((0:Nat):Int))=(items.size:Int) - 1 by lia];exact hi,hl⟩;have hT:s.TypeIs (.ref it) "list_reverseiterator":=hi.typeIs
 have key:codeAny (model prog w) A (.builtin "list.extend.loop" ⟨[.ref S,.ref it,res],[]⟩) R s:=by
  refine codeAny_extend_loopS W.toS hz S SN res items.size 0 _ #[] c0 rfl (Yk _) Hw hS (ItemsOf.nil _) λs' acc c hm Tn Uy=>?_;rw[Moved.eq_with hm];refine k s'.heap s'.toks acc c (λb o hb hbi e=>hm.heap b o (λhmem=>?_) e) Tn Uy;rcases Yh.mp hmem with e' | hmem
  .exact hb e'
  .exact hbi (XC.mp hmem)
 unfold Builtin.List.listExtendWith;refine XT (z9 (T:="list_reverseiterator") hT ?_);have e1:Builtin.List.listSameRef (.ref S) (.ref it)=false:=by simp[Builtin.List.listSameRef,h1]
 rw[if_neg (by rw[e1];decide)];refine XT (wpAny_pyIter_revIter hi ?_);refine XT (Td (tH hT ?_));rw[if_neg (by decide)];exact Ym ⟨Oa jj _,key⟩
theorem tE{Q:Ae}(hh:A.handled=none)(hi:s.heap.IsRevIter it a ((items.size:Int) - 1))(hl:s.heap.IsList a items)(XH:a≠it)(hz:items.size<=sizeLine)
  (k:∀ h' tk acc c,(∀ b o,b≠it->s.heap.get? b=some o->h'.get? b=some o)->h'.get? s.heap.objs.size=some { cls:=.type "list",dict:=none,data:=.seq acc c,slots:=#[] }->ItemsOf (λi v=>items[items.size - 1 - i]?=some v) acc items.size ->
   Q (.ref s.heap.objs.size) { s with heap:=h',toks:=tk }):wpAny (model prog w) A (call (.type "list") [.ref it]) Q E s:=by
 obtain⟨oi,hoi,_⟩:=id hi;obtain⟨ol,QV,_⟩:=id hl;have n1:s.heap.objs.size≠it:=RY (Yq hoi)
 have n2:s.heap.objs.size≠a:=RY (Yq QV);refine callType_codes (Q₁:=λob s₁=>ob=.ref s.heap.objs.size/\s₁={ s with heap:=s.heap.push { cls:=.type "list",data:=.seq #[] } }) PySem.F.called_list (PySem.F.typeCall_list_1 _) PySem.F.entry_list_init (code_list_new _ ⟨rfl,rfl⟩) λob s₁ z=>?_;obtain⟨rfl,rfl⟩:=z;have Hv:(s.heap.push { cls:=.type "list",data:=.seq #[] }).get? s.heap.objs.size=some { cls:=.type "list",data:=.seq #[] }:=Yl _ rfl
 refine⟨⟨_,Hv,rfl⟩,PySem.F.args_list_init_2 _ _,?_⟩;show wpAny _ A.in1.in1 (do let old <- Builtin.List.listItems (.ref s.heap.objs.size);Builtin.List.listUpdate (.ref s.heap.objs.size) (λ_=>#[]);letGo old.toList.reverse;Builtin.List.listExtendWith (.ref s.heap.objs.size) (.ref it) .none) _ _ _
 refine XT ?_;unfold Builtin.List.listItems;refine XT (KU Hv rfl (Ym ?_));refine XT (Ap (a:=s.heap.objs.size) Hv rfl ?_);have EE:=Vp (Obj.mapSeq (λ_=>(#[]:Array Value))) Hv rfl
 have JL:∀ b o,b≠s.heap.objs.size->s.heap.get? b=some o->((s.heap.push { cls:=.type "list",data:=.seq #[] }).update s.heap.objs.size (Obj.mapSeq (λ_=>(#[]:Array Value)))).get? b=some o :=
  λb o hb e=>(QP _ _ (XG hb)).trans (WZ _ e)
 refine XT (HQ ?_);refine ZV6 (A:=A.in1) (items:=items) hh (hi.at λo e=>JL it o (XG n1) e) (hl.at λo e=>JL a o (XG n2) e) XH n1 n2 EE hz λh' tk acc c hk Tn Uy=>?_;exact⟨rfl,k h' tk acc c (λb o hb e=>hk b o (Yz (Yq e)) hb (JL b o (Yz (Yq e)) e)) Tn Uy⟩
end
end
section
variable{X:Cx}{p p2 pos Vj:Pos}{e:Expr}{t:TA}
def ZL9(K:Ad)(t:TA):TE:=λσ H Q=>t σ H λvs H1=>∃(a:Addr) (ys:List V),vs=[.ref a]/\SqL K H1 a ys/\∀ l,H1 l=none->Q (.ref l) (upd H1 l (.lst ys.reverse))
theorem gG (K:Ad) (hc:X.calm=true) (g1:Gl X "list") (m1:X.mg "list"=none) (g2:Gl X "reversed") (m2:X.mg "reversed"=none) (ha:PA X [e] t) (hk:X.K=K:=by rfl)
  (he:starEach [e] X.env=[(false,eval e X.env)]:=by rfl)
  (Qb:starEach [.Call (.Name "reversed" p2) [e] [] Vj] X.env=[(false,eval (.Call (.Name "reversed" p2) [e] [] Vj) X.env)]:=by rfl) :
  PE X (.Call (.Name "list" p) [.Call (.Name "reversed" p2) [e] [] Vj] [] pos) (ZL9 K t):=by
 subst hk;intro pins s σ H Q I h;refine OS (QZ I g1 m1 Boot.«list» ?_);refine Uc ?_ (by rw[Qb];rfl) rfl;rw[Qb];show wpAny _ _ (spliced ((false,eval (.Call (.Name "reversed" p2) [e] [] Vj) X.env) :: backTo pos [])) _ _ s
 refine Kz ?_;refine OS (QZ I g2 m2 Boot.«reversed» ?_);refine Uc (thn (ha Vj pins s σ H _ I h) λus s1 ⟨vs,H1,I1,r1,q1⟩=>?_) (by rw[he];rfl) rfl;obtain⟨a,ys,rfl,hq,q⟩:=q1;obtain⟨u,rfl,ru⟩:=WJ r1;obtain rfl:u=Value.ref a:=ru;obtain⟨XW,rv,pl,hz⟩:=I1.list hq;refine call_reversed_list pl.isList ?_;refine xh ?_;have el:XW.toArray.size=ys.length:=by rw[Yb,<- rv.length]
 have hit:(s1.heap.push (revObj a ((XW.toArray.size:Int) - 1))).IsRevIter s1.heap.objs.size a ((XW.toArray.size:Int) - 1):=⟨_,Yl _ rfl,rfl,rfl⟩;have XH:a≠s1.heap.objs.size:=Yz (let ⟨_,_,e,_⟩:=pl;Yq e)
 refine tE (I.ok.hd hc) hit (pl.isList.push _) XH (by rwa[el]) λh' tk acc c hk hS zy=>?_;have LR:XW.length=ys.length:=rv.length.symm
 have ea:acc.toList=XW.reverse:=by
  refine Ib λi=>?_;have h1:=zy.1
  by_cases hi:i<XW.length
  .obtain⟨v,ev⟩:∃ v,acc[i]?=some v:=⟨_,YG (by rwa[h1,Yb])⟩;have h2:=zy.2 i v ev
   rw[Ih hi];have e3:acc.toList[i]?=some v:=by simpa using ev
   rw[e3];have e4:XW[XW.length - 1 - i]?=some v:=by simpa using h2
   rw[e4]
  .rw[Vq (by rw[YB,h1,Yb];grind),Vq (by rw[YR];omega)]
 rw[size_push']at hS ⊢;refine⟨.ref (s1.heap.objs.size+1),_,I1.laid (o:=.lst ys.reverse) (h':=h') (t':=tk) (λb o e=>hk b o (Yz (Yq e)) (WZ _ e)) (Uq _) ⟨?_,acc.toList,c,?_,?_⟩,rfl,q _ (I1.hok.fresh (Uq _))⟩
 .rw[YR];exact hz
 .rw[ea];exact rv.rev
 .rw[hS]
end
end L2
namespace My
open PySem L2
theorem XU:IsSet m ns↔(∀ z∈ns,0<=z/\z<(m:Int))/\ns.Pairwise (· < ·):=by
 constructor
 .intro h;refine⟨h.all,?_⟩;rw[Ik];intro i j hi hj TV
  induction j with
  | zero=>exact absurd TV (Wq i)
  | succ j ih =>
   have tD:j<ns.length:=by grind
   have key:=(h (j+1) ns[j+1] (Xu hj)).2.2 ns[j] (by lia) (by rw[xD];exact Xu tD);by_cases e:i=j
   .subst e;exact key
   .have:=ih tD (by lia)
    lia
 .rintro⟨ha,hp⟩ i z hz;obtain⟨hi,ei⟩:=Xm.mp hz;have hm:=ha z (Xi hz)
  refine⟨hm.1,hm.2,λy h0 hy=>?_⟩;obtain⟨PN,ei'⟩:=Xm.mp hy
  have:=Ik.mp hp (i - 1) i PN hi (by lia)
  rwa[ei,ei']at this
theorem JK{ns:Ac}(h:ns.Pairwise (· < ·)):ns.Nodup:=h.imp λVJ e=>by lia
theorem IsSet.nodup(h:IsSet m ns):ns.Nodup:=JK (XU.mp h).2
end My
namespace My
theorem Nt{α:Type}{P:List α->Prop}(h0:P [])(h1:∀ l x,P l->P (l++[x])):∀ l,P l:=by
 intro l;rw[<- List.reverse_reverse l]
 induction l.reverse with
 | nil=>exact h0
 | cons x r ih =>
  rw[xB];exact h1 _ _ ih
inductive Conn (es:List (Nat × Nat)):Nat->Nat->Prop
 | refl (i:Nat):Conn es i i
 | edge {a b:Nat} (h:(a,b)∈es):Conn es a b
 | symm {i j:Nat}:Conn es i j->Conn es j i
 | trans {i j k:Nat}:Conn es i j->Conn es j k->Conn es i k
theorem Conn.mono(h:∀ e∈es,e∈fs)(c:Conn es i j):Conn fs i j:=by
 induction c with
 | refl i=>exact .refl i
 | edge q=>exact .edge (h _ q)
 | symm _ ih=>exact .symm ih
 | trans _ _ i1 i2=>exact .trans i1 i2
theorem zx{n i:Nat}(h:i<n):mk ((List.range n).map λ(i:Nat)=>(i:Int)) i=(i:Int):=by rw[mk_map' h]
where
 mk_map' {n i:Nat} (h:i<n):mk ((List.range n).map λ(i:Nat)=>(i:Int)) i=(i:Int):=by simp[mk,WO,Yn,xG h]
def InN(n:Nat)(es:List (Nat × Nat)):Prop:=∀ e∈es,e.1<n/\e.2<n
theorem InN.snoc{e:Nat × Nat}(h:InN n (es++[e])):InN n es/\e.1<n/\e.2<n:=⟨λx hx=>h x (Ye _ hx),h e (by simp)⟩
theorem tw:∀ es:List (Nat × Nat),InN n es->∀ e∈es,mk (WH n es) e.1=mk (WH n es) e.2:=by
 refine Nt (λ_ e h=>by cases h) λes x ih hn e he=>?_;obtain⟨h1,h2,h3⟩:=hn.snoc;have hl:=ZS n es
 have hx:=hn e he;rw[LU];refine(EK (by lia) (by lia)).mpr ?_;rcases Xr.mp he with q | q
 .exact .inl (ih h1 e q)
 .rw[XC.mp q];exact .inr ⟨.inl rfl,.inr rfl⟩
theorem tu:∀ es:List (Nat × Nat),InN n es->∀ i j,i<n->j<n->mk (WH n es) i=mk (WH n es) j->Conn es i j:=by
 refine Nt (λ_ i j hi hj h=>?_) λes x ih hn i j hi hj h=>?_
 .have h:mk ((List.range n).map λ(i:Nat)=>(i:Int)) i=mk ((List.range n).map λ(i:Nat)=>(i:Int)) j:=h;rw[zx hi,zx hj]at h
  have:i=j:=by lia
  subst this;exact .refl i
 .obtain⟨h1,h2,h3⟩:=hn.snoc;have hl:=ZS n es
  have up:∀ {i j:Nat},Conn es i j->Conn (es++[x]) i j:=λc=>c.mono λe he=>Ye _ he;have ex:Conn (es++[x]) x.1 x.2:=.edge (by simp)
  rw[LU]at h;rcases(EK (by lia) (by lia)).mp h with q | ⟨q1,q2⟩
  .exact up (ih h1 i j hi hj q)
  .have ci:Conn (es++[x]) i x.1:=by
    rcases q1 with q | q
    .exact up (ih h1 i _ hi h2 q)
    .exact(up (ih h1 i _ hi h3 q)).trans ex.symm
   have cj:Conn (es++[x]) j x.1:=by
    rcases q2 with q | q
    .exact up (ih h1 j _ hj h2 q)
    .exact(up (ih h1 j _ hj h3 q)).trans ex.symm
   exact ci.trans cj.symm
theorem ED(hn:InN n es)(c:Conn es i j):i=j\/(i<n/\j<n/\mk (WH n es) i=mk (WH n es) j):=by
 induction c with
 | refl i=>exact .inl rfl
 | edge q=>exact .inr ⟨(hn _ q).1,(hn _ q).2,tw es hn _ q⟩
 | symm _ ih =>
  rcases ih with e | ⟨a,b,c⟩
  .exact .inl e.symm
  .exact .inr ⟨b,a,c.symm⟩
 | trans _ _ i1 i2 =>
  rcases i1 with e | ⟨a,b,c⟩
  .rw[e];exact i2
  .rcases i2 with e | ⟨a',b',c'⟩
   .rw[<- e];exact .inr ⟨a,b,c⟩
   .exact .inr ⟨a,b',c.trans c'⟩
theorem Wi(hn:InN n es)(hi:i<n)(hj:j<n):mk (WH n es) i=mk (WH n es) j↔Conn es i j:=by
 constructor
 .exact tu es hn i j hi hj
 .intro c;rcases ED hn c with e | ⟨_,_,e⟩
  .rw[e]
  .exact e
theorem RL(hn:InN n es)(hi:i<n)(hj:j<n):mk (Xs n es) i=mk (Xs n es) j↔Conn es i j:=by
 rw[<- Wi hn hi hj];have s:=zD (n:=n) (es:=es) hn
 exact s.2 i j (by rwa[ZE]) (by rwa[ZE])
def cnt(M:Ac):Nat:=(VB M M.length).length
theorem zw(M:Ac):∃ p,p<=i/\mk M p=mk M i/\Wv M p=true:=by
 induction i using Nat.strongRecOn with
 | ind i ih =>
  by_cases h:Wv M i=true
  .exact⟨i,XJ _,rfl,h⟩
  .have:∃ j,j<i/\mk M j=mk M i:=by
    by_cases q:∃ j,j<i/\mk M j=mk M i
    .exact q
    .exact absurd (Xz.mpr λj hj e=>q ⟨j,hj,e⟩) h
   obtain⟨j,hj,e⟩:=this;obtain⟨p,h1,h2,h3⟩:=ih j hj;exact⟨p,by lia,h2.trans e,h3⟩
theorem Zx7{p q:Nat->Bool}{x n:Nat}(hx:x<n)(hpx:p x=true)(h:∀ y,y<n->q y=(p y && !decide (y=x))):((List.range n).filter q).length+1=((List.range n).filter p).length:=by
 induction n with
 | zero=>exact absurd hx (Wq x)
 | succ n ih =>
  rw[GB,Rf,Rf,Xv,Xv];by_cases e:x=n
  .subst e;have e1:(List.range x).filter q=(List.range x).filter p:=Ms λy hy=>by have hy:=YI.mp hy;rw[h y (by lia),show decide (y=x)=false from YT (by lia)];simp
   have e2:q x=false:=by rw[h x (by lia)];simp
   rw[e1];simp[YN,e2,hpx]
  .have hq:q n=p n:=by rw[h n (by lia),show decide (n=x)=false from YT (λz=>e z.symm)];simp
   have:=ih (by lia) λy hy=>h y (by lia)
   simp only [YN,As,hq];lia
theorem zv(hp:Wv M p=true)(hq:Wv M q=true)(e:mk M p=mk M q):p=q:=by
 rcases Nat.lt_trichotomy p q with h | h | h
 .exact absurd e (Xz.mp hq p h)
 .exact h
 .exact absurd e.symm (Xz.mp hp q h)
theorem tq(ha:a<m.length)(hb:b<m.length)(XH:mk m a≠mk m b):cnt (lm m a b)+1=cnt m:=by
 obtain⟨A,Ou,Tj,Nr⟩:=zw m (i:=a);obtain⟨B,gF,Nq,Hu⟩:=zw m (i:=b);have hAB:A≠B:=λe=>XH (by rw[<- Tj,<- Nq,e])
 unfold cnt VB;rw[zH];refine Zx7 (x:=max A B) (by grind) ?_ λy hy=>?_
 .rcases Nat.le_total A B with h | h
  .rw[Nat.max_eq_right h];exact Hu
  .rw[Nat.max_eq_left h];exact Nr
 .rw[Sa,Ta,Xz,Xz];have key:∀ i,i<y->(mk (lm m a b) i=mk (lm m a b) y↔Hx m a b i y):=λi hi=>EK (by lia) hy
  have tm:(!decide (y=max A B))=true↔y≠max A B:=by simp
  rw[tm];constructor
  .intro q;refine⟨λi hi e=>q i hi ((key i hi).mpr (.inl e)),λe=>?_⟩;rcases Nat.lt_or_gt_of_ne hAB with h | h
   .have ey:y=B:=by lia
    subst ey;exact q A h ((key A h).mpr (.inr ⟨.inl Tj,.inr Nq⟩))
   .have ey:y=A:=by grind
    subst ey;exact q B h ((key B h).mpr (.inr ⟨.inr Nq,.inl Tj⟩))
  .rintro⟨q1,q2⟩ i hi e;rcases(key i hi).mp e with e | ⟨e1,e2⟩
   .exact q1 i hi e
   .have fy:Wv m y=true:=Xz.mpr q1;rcases e2 with e2 | e2
    .have ey:y=A:=zv fy Nr (e2.trans Tj.symm);rcases e1 with e1 | e1
     .exact q1 i hi (e1.trans e2.symm)
     .obtain⟨p,p1,p2,p3⟩:=zw m (i:=i)
      have:p=B:=zv p3 Hu (by rw[p2,e1,Nq])
      grind
    .have ey:y=B:=zv fy Hu (e2.trans Nq.symm);rcases e1 with e1 | e1
     .obtain⟨p,p1,p2,p3⟩:=zw m (i:=i)
      have:p=A:=zv p3 Nr (by rw[p2,e1,Tj])
      grind
     .exact q1 i hi (e1.trans e2.symm)
theorem gE(n:Nat):cnt ((List.range n).map λ(i:Nat)=>(i:Int))=n:=by
 unfold cnt VB;rw[Ya,OQ];have e:(List.range n).filter (Wv ((List.range n).map λ(i:Nat)=>(i:Int)))=List.range n:=by
  refine xF.mpr λp hp=>Xz.mpr λi hi e=>?_;have hp:=YI.mp hp
  rw[zx (by lia),zx hp]at e;lia
 rw[e,OQ]
theorem tj(hM:1<=M.length):cnt M=1↔∀ i j,i<M.length->j<M.length->mk M i=mk M j:=by
 have e:cnt M=(JP M).length:=by unfold cnt JP;rw[gH,Ya]
 rw[e];exact gO hM
end My
namespace My
open PySem L2
theorem tf{i:Int}{n:Nat}(h0:0<=i)(h1:i<(n:Int)):seqIndex? i n=some i.toNat:=by have e:(if i<0 then i+(n:Int) else i)=i:=if_neg (by lia);unfold seqIndex?;simp only [e];rw[if_pos (by simp;lia)]
def Ze(n:Int)(ps:Aa)(ns:Ac):Prop:=IsSet ps.length ns/\(ns.length:Int)=n - 1/\∀ i j,i<n.toNat->j<n.toNat->Conn (XQ ps ns) i j
theorem ZT(g:Zz n ps)(h:∀ z∈ns,0<=z/\z<(ps.length:Int)):InN n.toNat (XQ ps ns):=λe he=>by
 obtain⟨z,hz,rfl⟩:=YD.mp he;obtain⟨z0,z1⟩:=h z hz;have hp:ps[z.toNat]?=some (ps[z.toNat]'(by lia)):=Xu _
 rw[We hp];obtain⟨b1,b2,b3,b4⟩:=g.2.2.2 _ (Xi hp);exact⟨by lia,by lia⟩
theorem ZQ(h:∀ z∈ns,z∈ms):∀ e∈XQ ps ns,e∈XQ ps ms:=λe he=>by obtain⟨z,hz,rfl⟩:=YD.mp he;exact YD.mpr ⟨z,h z hz,rfl⟩
theorem gD(h:InN n es):(∀ i j,i<(WH n es).length->j<(WH n es).length->mk (WH n es) i=mk (WH n es) j)↔∀ i j,i<n->j<n->Conn es i j:=by
 rw[ZS];constructor
 .intro q i j hi hj;exact(Wi h hi hj).mp (q i j hi hj)
 .intro q i j hi hj;exact(Wi h hi hj).mpr (q i j hi hj)
theorem td(hn:1<=n)(h:InN n es):(JP (Xs n es)).length=1↔∀ i j,i<n->j<n->Conn es i j:=by rw[gO (by rwa[ZE]),(zD h).one];exact gD h
theorem Ux(h:∀ z,z∈ns↔z∈ms):Conn (XQ ps ns) i j↔Conn (XQ ps ms) i j :=
 ⟨λc=>c.mono (ZQ λz hz=>(h z).mp hz),λc=>c.mono (ZQ λz hz=>(h z).mpr hz)⟩
section
variable{K:Ad}{a:Addr}{xs:List V}{g:TG}{tt:TT}{te:TE}{o:Nat}{fr:List Nat}{σ:St}{H:Hp}{Q:VK}
theorem Np(Pv:Nat->List V->Hp->Prop)(h0:Pv 0 [] H)(hz:xs.length<sizeLine)(hl:∀ i ys H,i<=xs.length->Pv i ys H->SqL K H a xs/\ys.length<=i)
  (hs:∀(i:Nat) x ys H (p:Addr),H p=none->xs[i]?=some x->Pv i ys H->JT Pv g tt te o fr σ i (.ref p) ys (upd H p (.tup [.int i,x]))) (hd:∀ ys H,Pv xs.length ys H->∀ p,H p=none->Q (.ref p) (upd H p (.lst ys))):Nz (HA K a) g tt te o fr σ H Q:=by
 refine⟨λi m ys H=>m=xs.length - i/\i<=xs.length/\Pv i ys H,⟨xs.length,by simp,Yk _,h0⟩,?_⟩;rintro i m ys H ⟨rfl,hi,p⟩;obtain⟨q,hy⟩:=hl i ys H hi p;by_cases Xe:i<xs.length
 .refine .inr ⟨⟨xs,xs[i],q,by simp[Xe]⟩,by lia,λx H' ⟨T,y,hT,ex,eH,hyy⟩=>?_⟩;subst ex eH;exact hs i y ys H T hT (hyy xs q) p (λj ys H=>∃ m',m'<xs.length - i/\m'=xs.length - j/\j<=xs.length/\Pv j ys H) λys H p'=>⟨xs.length - (i+1),by grind,rfl,Xe,p'⟩
 .have e:i=xs.length:=by lia
  subst e;exact .inl ⟨⟨xs,q,XJ _⟩,by lia,hd ys H p⟩
end
def unlike(M:Ac)(ps:Aa)(i:Nat):Ac:=((List.range i).filter λk=>decide (mk M (ps.getD k (0,0)).1.toNat≠mk M (ps.getD k (0,0)).2.toNat)).map λ(k:Nat)=>(k:Int)
theorem EC(M:Ac)(ps:Aa)(i:Nat):unlike M ps (i+1)=unlike M ps i++(if mk M (ps.getD i (0,0)).1.toNat≠mk M (ps.getD i (0,0)).2.toNat then [(i:Int)] else []):=by
 unfold unlike;rw[GB,Rf,YJ];congr 1;by_cases h:mk M (ps.getD i (0,0)).1.toNat≠mk M (ps.getD i (0,0)).2.toNat
 .rw[if_pos h,YN,if_pos (Yr h)];rfl
 .rw[if_neg h,YN,if_neg (by simpa using h)];rfl
theorem Zd6(M:Ac)(ps:Aa)(i:Nat):(unlike M ps i).length<=i:=by unfold unlike;rw[Ya];exact Yv (YF _ _) (by simp)
def wo(ns:Ac)(z:Int):Ac:=ns.filter λy=>decide (y≠z)
theorem Xo{z y:Int}:y∈wo ns z↔y∈ns/\y≠z:=by unfold wo;rw[Yd];simp
theorem PM(ns:Ac)(z:Int):(wo ns z).length<=ns.length:=YF _ _
theorem zu{ns:Ac}{y z:Int}(h:ns[i]?=some y):wo (ns.take (i+1)) z=wo (ns.take i) z++(if y≠z then [y] else []):=by
 unfold wo;rw[YL,h,Rf];congr 1;by_cases e:y≠z
 .rw[if_pos e];show List.filter _ [y]=_;rw[YN,if_pos (Yr e)];rfl
 .rw[if_neg e];show List.filter _ [y]=_;rw[YN,if_neg (by simpa using e)];rfl
theorem ZD5(g:Zz n ps)(hM:M.length=n.toNat)(s:SameP M L):unlike M ps ps.length=unlike L ps ps.length:=by
 unfold unlike;congr 1;refine Ms λk hk=>?_;have hk:=YI.mp hk
 have hp:ps[k]?=some ps[k]:=Xu hk;rw[We hp];obtain⟨b1,b2,b3,b4⟩:=g.2.2.2 _ (Xi hp)
 have:=s.2 ps[k].1.toNat ps[k].2.toNat (by grind) (by grind)
 rw[Sa,YM,YM];exact not_congr this
def UW(n:Int)(ps:Aa)(ns:Ac)(z:Int)(l:Ac):Ac:=l.filter λy=>decide (z∈unlike (WH n.toNat (XQ ps (wo ns y))) ps ps.length)
theorem gC{l:Ac}{y:Int}(h:l[i]?=some y) :
  UW n ps ns z (l.take (i+1))=UW n ps ns z (l.take i)++(if z∈unlike (WH n.toNat (XQ ps (wo ns y))) ps ps.length then [y] else []):=by
 unfold UW;rw[YL,h,Rf];congr 1;by_cases e:z∈unlike (WH n.toNat (XQ ps (wo ns y))) ps ps.length
 .rw[if_pos e];show List.filter _ [y]=_;rw[YN,if_pos (Yr e)];rfl
 .rw[if_neg e];show List.filter _ [y]=_;rw[YN,if_neg (by simpa using e)];rfl
theorem TU(n:Int)(ps:Aa)(ns:Ac)(z:Int)(l:Ac):(UW n ps ns z l).length<=l.length:=YF _ _
theorem Zc6{z:Int}(h0:0<=z)(h1:z<(ps.length:Int)):z∈unlike M ps ps.length↔mk M (ps.getD z.toNat (0,0)).1.toNat≠mk M (ps.getD z.toNat (0,0)).2.toNat:=by
 unfold unlike;rw[YD];constructor
 .rintro⟨k,hk,rfl⟩
  have:=Yo (Yd.mp hk).2
  rwa[YH]
 .intro h;exact⟨z.toNat,Yd.mpr ⟨YI.mpr (by grind),Yr h⟩,by lia⟩
theorem EB{a b:Ac}(h:a.Perm b)(h1:a.Pairwise (·<=·))(h2:b.Pairwise (·<=·)):a=b:=by
 induction a generalizing b with
 | nil=>exact(List.Perm.nil_eq h)
 | cons x a ih =>
  cases b with
  | nil=>exact absurd h.length_eq (by simp)
  | cons y b =>
   obtain⟨hx,ha⟩:=YV.mp h1;obtain⟨hy,hb⟩:=YV.mp h2;have e:x=y:=by
    have m1:y∈x :: a:=h.mem_iff.mpr Yc;have m2:x∈y :: b:=h.mem_iff.mp Yc
    rcases Yh.mp m1 with e1 | e1
    .exact e1.symm
    .rcases Yh.mp m2 with e2 | e2
     .exact e2
     .have:=hx y e1;have:=hy x e2;lia
   subst e;rw[ih (List.Perm.cons_inv h) ha hb]
end My
namespace L2
open PySem PySem.Spec PyProof.Rows
section
variable{prog:Program}{w:World}{A:Around}{E:Ae}{s:Shared}
theorem ZW5 {tp:Addr} {vs:Ag} {Q:List Value->Shared->Prop} {ot:Obj} (ht:s.heap.get? tp=some ot) (hc:ot.cls=.type "tuple") (hd:ot.data=.seq vs.toArray m) (hz:vs.length<=sizeLine)
  (k:Q vs { s with heap:=(s.heap.push (seqObj "list" #[] 0)).update s.heap.objs.size (Obj.mapSeq (·++vs.toArray)) }):wpAny (model prog w) A (collect (.ref tp)) Q E s:=by
 have gB:(s.heap.push (seqObj "list" #[] 0)).get? tp=some ot:=WZ _ ht;have EA:(s.heap.push (seqObj "list" #[] 0)).get? s.heap.objs.size=some (seqObj "list" #[] 0):=Yl _ rfl
 unfold collect;refine XT (wpAny_runValue (Ra entry_proto_collect' ?_));show wpAny _ _ (do again (.builtin "list.__iadd__" ⟨[<- newList [],.ref tp],[]⟩)) _ _ s
 refine XT (HS (Ym ⟨KA _ (by decide +kernel),Ra entry_list_iadd' ?_⟩));show wpAny _ _ (Builtin.List.listExtendWith (.ref s.heap.objs.size) (.ref tp) (.ref s.heap.objs.size)) _ _ { s with heap:=s.heap.push (seqObj "list" #[] 0) }
 unfold Builtin.List.listExtendWith;refine XT (z9 (T:="tuple") ⟨ot,gB,hc⟩ ?_);rw [if_pos (by rw [show(Value.type "tuple" == Value.type "tuple")=true from rfl];simp)];refine XT (listItems_at gB hd ?_);refine XT (listItems_at (xs:=#[]) (n:=0) EA rfl ?_);rw[if_neg (by simp)];refine XT (KP (xs:=#[]) (n:=0) EA rfl ?_ (Yk _) (by show(#[]++vs.toArray).size<=sizeLine+1;simp only [Array.size_append,Yb,Ub];lia));refine Ym ?_;refine XT (wpAny_load (Ah EA _) ?_);show wpAny _ _ (pure ((#[]:Array Value)++vs.toArray).toList) Q E _
 rw[show((#[]:Array Value)++vs.toArray).toList=vs by simp];exact Ym k
theorem ZG5 {tp:Addr} {Q:Ae} {ot:Obj} (ht:s.heap.get? tp=some ot) (hc:ot.cls=.type "tuple") (hd:ot.data=.seq vs.toArray m) (hI:IntsAre vs ns) (QU:vs.length<64)
  (k:∀(out:Array Value) (ms:Ac),IntsAre out.toList ms->ms.Perm ns->ms.Pairwise (·<=·)->Q (.ref (s.heap.objs.size+1)) { s with heap:=sortedAll s.heap vs out }) :
  wpAny (model prog w) A (call (.builtin "sorted") [.ref tp]) Q E s:=by
 have Ez:sizeLine=16777216:=Sx;have hsz:((s.heap.push (seqObj "list" #[] 0)).update s.heap.objs.size (Obj.mapSeq (·++vs.toArray))).objs.size=s.heap.objs.size+1:=by rw[Heap.size_update,size_push']
 have Kw:(((s.heap.push (seqObj "list" #[] 0)).update s.heap.objs.size (Obj.mapSeq (·++vs.toArray))).push (seqObj "list" vs.toArray 0)).get? (s.heap.objs.size+1)=some (seqObj "list" vs.toArray 0):=by rw[<- hsz];exact Yl _ rfl
 refine Calls.call_function_entry kind_sorted plain_sorted entry_sorted (args_sorted1 _) ?_;unfold Builtin.«sorted»;refine XT (m:=checkCount "sorted" 1 1 _) (Ym ?_);refine XT (ZW5 ht hc hd (by lia) ?_);refine XT (HS ?_);show wpAny _ _ _ _ _ { s with heap:=((s.heap.push (seqObj "list" #[] 0)).update s.heap.objs.size (Obj.mapSeq (·++vs.toArray))).push (seqObj "list" vs.toArray 0) }
 rw[hsz];refine XT (Td (Mp slot_list_sort ⟨_,Kw,rfl⟩ entry_list_sort (list_sort_tree Kw hI QU λout ms b1 b2 b3=>⟨_,rfl,?_⟩) (args_list_sort _)));exact Ym ⟨_,rfl,k out ms b1 b2 b3⟩
end
section
variable{X:Cx}
theorem gz (K:Ad) (hk:X.K=K:=by rfl):VM X (.builtin "sorted") (λxs H Q=>∃(p:Addr) (ns:Ac),xs=[.ref p]/\SqT K H p (ns.map V.int)/\ns.length<64 /\
  ∀ ms:Ac,ms.Perm ns->ms.Pairwise (·<=·)->∀ l,H l=none->Q (.ref l) (upd H l (.lst (ms.map V.int)))):=by
 subst hk;intro pins s σ H xs us Q I r h;obtain⟨p,ns,rfl,hq,hn,q⟩:=h;obtain⟨u,rfl,ru⟩:=WJ r;obtain rfl:u=Value.ref p:=ru;obtain⟨XW,rv,⟨ot,h1,h2,m,h3⟩,hz⟩:=I.tuple hq;have hi:=ZL rv
 have hl:XW.length=ns.length:=by rw[<- rv.length,Ya]
 refine ZG5 h1 h2 h3 hi (by lia) λout ms b1 b2 b3=>?_;obtain⟨e,he⟩:=sortedAll_at s.heap XW out;have Ov:ms.length=ns.length:=b2.length_eq
 refine⟨.ref (s.heap.objs.size+1),_,I.laid (t':=s.toks) (o:=.lst (ms.map V.int)) (λb o g=>sortedAll_old g) (Uq _) ⟨?_,out.toList,e,PQ b1,he⟩,rfl,q ms b2 b3 _ (I.hok.fresh (Uq _))⟩;rw[Ya,Ov]
 have:sizeLine=16777216:=Sx
 lia
def JJ(K:Ad):R2:=λx y H Q=>∃ a b xs ys,x=.ref a/\y=.ref b/\SqT K H a xs/\SqT K H b ys/\xs.length+ys.length<=sizeLine /\
 (xs=[]->Q (.ref b) H)/\(xs≠[]->ys=[]->Q (.ref a) H)/\(xs≠[]->ys≠[]->∀ p,H p=none->Q (.ref p) (upd H p (.tup (xs++ys))))
theorem JI(K:Ad)(hk:X.K=K:=by rfl):WK X (binaryOp .Add) (JJ K):=by
 intro pins s σ H x y v u Q I rx ry h;obtain⟨a,b,xs,ys,e1,e2,ha,hb,hz,q0,q1,q2⟩:=id h;by_cases hx:xs=[]
 .subst hk e1 e2;cases rx;cases ry;obtain⟨XW,r1,p1,_⟩:=I.tuple ha;obtain⟨Ww,r2,p2,_⟩:=I.tuple hb;have hi:XW=[]:=r1.nil_iff.mpr hx
  obtain⟨⟨cls,dd,data,sl⟩,ho,hc,n,hd⟩:=id p1;obtain⟨⟨FC,HG,data2,HF⟩,Uk,VL,n2,hd2⟩:=id p2;simp only at hc hd VL hd2;subst hc hd VL hd2;exact z8 ⟨_,ho,rfl⟩ ⟨_,Uk,rfl⟩ xg seq_tuple_add KL KO (xS _ _)
   (tuple_addW0 a b XW.toArray Ww.toArray n n2 dd HG sl HF (by simp[hi])) ⟨ho,Uk,⟨.ref b,H,I,rfl,q0 hx⟩⟩
 .exact tX K hk pins s σ H x y v u Q I rx ry ⟨a,b,xs,ys,e1,e2,ha,hb,hx,hz,q1 hx,q2 hx⟩
end
end L2
namespace My
open PySem L2
theorem Ey(h:mk m a=mk m b):lm m a b=m:=by unfold lm;rw[if_neg (λz=>z h)]
theorem gy(ha:a<m.length)(hb:b<m.length):cnt m<=cnt (lm m a b)+1:=by
 by_cases e:mk m a=mk m b
 .rw[Ey e];lia
 .have:=tq ha hb e;lia
theorem zt:∀ es:List (Nat × Nat),InN n es->n<=cnt (WH n es)+es.length:=by
 refine Nt (λ_=>?_) λes x ih hn=>?_
 .have:cnt (WH n [])=n:=gE n
  lia
 .obtain⟨h1,h2,h3⟩:=hn.snoc;have hl:=ZS n es
  have:=gy (m:=WH n es) (a:=x.1) (b:=x.2) (by lia) (by lia)
  have:=ih h1
  rw[LU,Xv,Yt,Ub];lia
theorem sZ(h:1<=M.length):1<=cnt M:=by unfold cnt VB;refine Ij (a:=0) (Yd.mpr ⟨YI.mpr (by lia),Xz.mpr λi hi=>absurd hi (Wq i)⟩)
theorem LQ(hn:1<=n)(h:InN n es):cnt (WH n es)=1↔∀ i j,i<n->j<n->Conn es i j:=by rw[tj (by rwa[ZS])];exact gD h
theorem sY(hn:ts.Nodup)(ho:o∈ts):(wo ts o).length+1=ts.length:=by
 induction ts with
 | nil=>cases ho
 | cons x r ih =>
  obtain⟨h1,h2⟩:=Rb.mp hn;unfold wo;rw[YN];by_cases e:x=o
  .subst e;rw[if_neg (by simp)]
   have:r.filter (λy=>decide (y≠x))=r:=xF.mpr λy hy=>Yr λe=>h1 (e ▸ hy)
   rw[this];rfl
  .rw[if_pos (Yr e)]
   have:=ih h2 ((Yh.mp ho).resolve_left λz=>e z.symm)
   unfold wo at this;rw[Yt,Yt];lia
def Zx(ps:Aa)(z:Int):Nat × Nat:=((ps.getD z.toNat (0,0)).1.toNat,(ps.getD z.toNat (0,0)).2.toNat)
theorem JH(ps:Aa)(ns:Ac)(z:Int):XQ ps (ns++[z])=XQ ps ns++[Zx ps z]:=by unfold XQ Zx;rw[YJ];rfl
theorem TR(g:Zz n ps)(z0:0<=z)(z1:z<(ps.length:Int)):(Zx ps z).1<n.toNat/\(Zx ps z).2<n.toNat:=by
 have:=ZT (ns:=[z]) g (λy hy=>by rw[XC.mp hy];exact⟨z0,z1⟩)
 exact this (Zx ps z) (by unfold XQ Zx;simp)
theorem Ex(hT:Ze n ps ts):∀ y∈wo ts o,0<=y/\y<(ps.length:Int):=λy hy=>hT.1.all y (Xo.mp hy).1
theorem JG(g:Zz n ps)(hT:Ze n ps ts)(ho:o∈ts)(z0:0<=z)(z1:z<(ps.length:Int)) :
  (∀ i j,i<n.toNat->j<n.toNat->Conn (XQ ps (wo ts o++[z])) i j)↔¬ Conn (XQ ps (wo ts o)) (Zx ps z).1 (Zx ps z).2:=by
 have hn:1<=n.toNat:=by have:=g.1;lia
 have hw:=sY hT.1.nodup ho;have hl:(ts.length:Int)=n - 1:=hT.2.1
 have i0:InN n.toNat (XQ ps (wo ts o)):=ZT g (Ex hT);have hz:=TR g z0 z1
 have ob:=hT.1.all o ho;have Ht:=TR g ob.1 ob.2
 have i1:InN n.toNat (XQ ps (wo ts o)++[Zx ps z]):=λe he=>(Xr.mp he).elim (i0 e) λq=>by rwa[XC.mp q]
 have i2:InN n.toNat (XQ ps (wo ts o)++[Zx ps o]):=λe he=>(Xr.mp he).elim (i0 e) λq=>by rwa[XC.mp q]
 have hL:=ZS n.toNat (XQ ps (wo ts o));have le:(XQ ps (wo ts o)).length=(wo ts o).length:=by unfold XQ;rw[Ya]
 rw[JH];constructor
 .intro hc c;have h1:cnt (WH n.toNat (XQ ps (wo ts o)++[Zx ps z]))=1:=(LQ hn i1).mpr hc
  rw[LU,Ey ((Wi i0 hz.1 hz.2).mpr c)]at h1
  have:=zt _ i0
  lia
 .intro hc;have h2:cnt (WH n.toNat (XQ ps (wo ts o)++[Zx ps o]))=1:=by
   refine(LQ hn i2).mpr λi j hi hj=>?_;rw[<- JH];refine(Ux λy=>?_).mp (hT.2.2 i j hi hj);rw[Xr,Xo,XC];constructor
   .intro hy;by_cases e:y=o
    .exact .inr e
    .exact .inl ⟨hy,e⟩
   .rintro(q | q)
    .exact q.1
    .rw[q];exact ho
  rw[LU]at h2;have h3:=gy (m:=WH n.toNat (XQ ps (wo ts o))) (a:=(Zx ps o).1) (b:=(Zx ps o).2) (by lia) (by lia)
  have h4:=tq (m:=WH n.toNat (XQ ps (wo ts o))) (a:=(Zx ps z).1) (b:=(Zx ps z).2) (by lia) (by lia) (λe=>hc ((Wi i0 hz.1 hz.2).mp e));have h5:=sZ (M:=lm (WH n.toNat (XQ ps (wo ts o))) (Zx ps z).1 (Zx ps z).2) (by rw[zH];lia)
  refine(LQ hn i1).mp ?_;rw[LU];lia
def VQ(n:Int)(ps:Aa)(ts:Ac)(o:Int):Ac:=unlike (WH n.toNat (XQ ps (wo ts o))) ps ps.length
theorem Ze6{z:Int}(h:z∈unlike M ps i):0<=z/\z<(i:Int):=by
 unfold unlike at h;obtain⟨k,hk,rfl⟩:=YD.mp h
 have:=YI.mp (Yd.mp hk).1
 lia
theorem ZX(g:Zz n ps)(hT:Ze n ps ts)(z0:0<=z)(z1:z<(ps.length:Int)):z∈VQ n ps ts o↔¬ Conn (XQ ps (wo ts o)) (Zx ps z).1 (Zx ps z).2:=by have hz:=TR g z0 z1;unfold VQ;rw[Zc6 z0 z1];exact not_congr (Wi (ZT g (Ex hT)) hz.1 hz.2)
def exg(n:Int)(ps:Aa)(ts:Ac)(o z:Int):Prop:=o∈ts/\z≠o/\z∈VQ n ps ts o
instance (n:Int) (ps:Aa) (ts:Ac) (o z:Int):Decidable (exg n ps ts o z):=by unfold exg;infer_instance
theorem LP(g:Zz n ps)(hT:Ze n ps ts) :
  exg n ps ts o z↔o∈ts/\z∉ts/\0<=z/\z<(ps.length:Int)/\∀ i j,i<n.toNat->j<n.toNat->Conn (XQ ps (wo ts o++[z])) i j:=by
 constructor
 .rintro⟨h1,h2,h3⟩;obtain⟨z0,z1⟩:=Ze6 h3;have hc:=(ZX g hT z0 z1).mp h3
  refine⟨h1,λhz=>hc ?_,z0,z1,(JG g hT h1 z0 z1).mpr hc⟩;refine .edge ?_;exact YD.mpr ⟨z,Xo.mpr ⟨hz,h2⟩,rfl⟩
 .rintro⟨h1,h2,z0,z1,hc⟩;exact⟨h1,λe=>h2 (e ▸ h1),(ZX g hT z0 z1).mpr ((JG g hT h1 z0 z1).mp hc)⟩
theorem PairsV.mut{l:Addr}{ys zs xs:List V}(hP:PairsV H xs ps)(hl:H l=some (.lst ys)):PairsV (upd H l (.lst zs)) xs ps:=by refine⟨hP.1,λj p e=>?_⟩;obtain⟨v,e1,tt,e2,e3⟩:=hP.2 j p e;exact⟨v,e1,tt,e2,by rwa[Za (VG e3 hl (λz=>nomatch z))]⟩
theorem Hs{o y:Int}(g:Zz n ps)(hT:Ze n ps ts)(ho:o∈ts)(hy:y∈ts):y∈VQ n ps ts o↔y=o:=by
 have yb:=hT.1.all y hy;rw[ZX g hT yb.1 yb.2];constructor
 .intro h;by_cases e:y=o
  .exact e
  .exact absurd (.edge (YD.mpr ⟨y,Xo.mpr ⟨hy,e⟩,rfl⟩)) h
 .rintro rfl;refine(JG g hT hy yb.1 yb.2).mp λi j hi hj=>(Ux λz=>?_).mp (hT.2.2 i j hi hj);rw[Xr,Xo,XC];constructor
  .intro hz;by_cases e:z=y
   .exact .inr e
   .exact .inl ⟨hz,e⟩
  .rintro(q | q)
   .exact q.1
   .rw[q];exact hy
theorem Xl:y∈UW n ps ts z l↔y∈l/\z∈VQ n ps ts y:=by unfold UW;rw[Yd,YM];exact Iff.rfl
theorem LO(g:Zz n ps)(hT:Ze n ps ts)(hx:exg n ps ts o z)(Wh:ms.Perm (wo ts o++[z]))(TQ:ms.Pairwise (·<=·)):Ze n ps ms:=by
 obtain⟨ho,hz,z0,z1,hc⟩:=(LP g hT).mp hx;have nd:(wo ts o++[z]).Nodup:=ES (hT.1.nodup.sublist List.filter_sublist) λh=>hz (Xo.mp h).1
 have ndm:ms.Nodup:=Wh.nodup_iff.mpr nd;have hl:=sY hT.1.nodup ho
 have Su:=Wh.length_eq;rw[Xv,Yp]at Su;refine⟨XU.mpr ⟨λy hy=>?_,(List.pairwise_and_iff.mpr ⟨TQ,ndm⟩).imp λ{x y} h=>by have:=h.1;have:=h.2;lia⟩,by rw[Su,hl];exact hT.2.1,λi j hi hj=>(Ux λy=>Wh.mem_iff).mpr (hc i j hi hj)⟩;rcases Xr.mp (Wh.mem_iff.mp hy) with h | h
 .exact hT.1.all y (Xo.mp h).1
 .rw[XC.mp h];exact⟨z0,z1⟩
section
variable{n:Int}{ps:Aa}{ts ms:Ac}{o z:Int}(g:Zz n ps)(hT:Ze n ps ts)(hx:exg n ps ts o z)(Wh:ms.Perm (wo ts o++[z]))(TQ:ms.Pairwise (·<=·))
include g hT hx Wh TQ
theorem zr{y:Int}:y∈ms↔(y∈ts/\y≠o)\/y=z:=by rw[Wh.mem_iff,Xr,Xo,XC]
end
theorem Ew:∀ {a b:Ac},a.length=b.length->HT.lexLt a b=true->∃(p:Ac) (x y:Int) (r s:Ac),a=p++x :: r/\b=p++y :: s/\x<y
 | [],[],_,h=>by cases h
 | [],_ :: _,e,_=>by simp at e
 | _ :: _,[],e,_=>by simp at e
 | x :: xs,y :: ys,e,h=>by
  rw[HT.Xj]at h;by_cases q:x=y
  .subst q;rw[if_pos rfl]at h;obtain⟨p,u,v,r,s,e1,e2,e3⟩:=Ew (by simpa using e) h;exact⟨x :: p,u,v,r,s,by rw[e1];rfl,by rw[e2];rfl,e3⟩
  .rw[if_neg q]at h;exact⟨[],x,y,xs,ys,rfl,rfl,Yo h⟩
theorem SM:∀ {a b:Ac},HT.lexLt a b=false->HT.lexLt b a=false->a=b
 | [],[],_,_=>rfl
 | [],_ :: _,h,_=>by cases h
 | _ :: _,[],_,h=>by cases h
 | x :: xs,y :: ys,h1,h2=>by
  rw[HT.Xj]at h1 h2;by_cases q:x=y
  .subst q;rw[if_pos rfl]at h1 h2;rw[SM h1 h2]
  .rw[if_neg q]at h1;rw[if_neg (λe=>q e.symm)]at h2
   have:=of_decide_eq_false h1
   have:=of_decide_eq_false h2
   lia
theorem Eu:∀ {a b c:Ac},HT.lexLt a b=true->HT.lexLt b c=true->HT.lexLt a c=true
 | [],[],_,h,_=>by cases h
 | [],_ :: _,[],_,h=>by cases h
 | [],_ :: _,_ :: _,_,_=>rfl
 | _ :: _,[],_,h,_=>by cases h
 | _ :: _,_ :: _,[],_,h=>by cases h
 | x :: xs,y :: ys,z :: zs,h1,h2=>by
  rw[HT.Xj]at h1 h2 ⊢;by_cases e1:x=y
  .subst e1;rw[if_pos rfl]at h1;by_cases e2:x=z
   .subst e2;rw[if_pos rfl]at h2 ⊢;exact Eu h1 h2
   .rw[if_neg e2]at h2 ⊢;exact h2
  .rw[if_neg e1]at h1;have h1:=Yo h1
   by_cases e2:y=z
   .subst e2;rw[if_neg e1];exact Yr h1
   .rw[if_neg e2]at h2;have h2:=Yo h2
    rw[if_neg (by lia)];exact Yr (by omega)
theorem sX:∀ a:Ac,HT.lexLt a a=false
 | []=>rfl
 | x :: xs=>by rw[HT.Xj,if_pos rfl];exact sX xs
theorem Sq(bt:Nat->Nat->Bool):∀ j,argBest bt j<=j
 | 0=>XJ _
 | j+1=>by
  unfold argBest;split
  .exact XJ _
  .have:=Sq bt j;lia
def VA(H:Hp)(v:V)(l:Ac):Prop:=∃ a,v=.ref a/\H a=some (.tup (IL l))
def TN(s:Ac):Int:=match s.getLast? with | none=>0 | some x=>x+1
def Uw(m:Int)(s:Ac):Ab:=(List.range (m - TN s).toNat).map λ(i:Nat)=>s++[TN s+(i:Int)]
def PL(m:Int):Nat->Ab
 | 0=>[[]]
 | k+1=>(PL m k).flatMap (Uw m)
theorem sW(s:Ac)(x:Int):TN (s++[x])=x+1:=by unfold TN;rw[List.getLast?_append];rfl
theorem Wu{s l:Ac}:l∈Uw m s↔∃ t,TN s<=t/\t<m/\l=s++[t]:=by
 unfold Uw;rw[YD];constructor
 .rintro⟨i,hi,rfl⟩
  have:=YI.mp hi
  exact⟨_,by lia,by omega,rfl⟩
 .rintro⟨t,h1,h2,rfl⟩;exact⟨(t - TN s).toNat,YI.mpr (by lia),by rw[show TN s+(((t - TN s).toNat:Nat):Int)=t by lia]⟩
theorem TM{t:Int}:IsSet m (s++[t])↔IsSet m s/\TN s<=t/\0<=t/\t<(m:Int):=by
 rw[XU,XU,Ld];have last:(∀ a∈s,∀ b∈[t],a<b)/\s.Pairwise (· < ·)->TN s<=t\/t<0:=by
  rintro⟨h,_⟩;unfold TN;cases e:s.getLast? with
  | none=>by_cases h0:0<=t;exact .inl h0;exact .inr (by lia)
  | some x=>have:=h x (xJ e) t (by simp);exact .inl (by show x+1<=t;lia)
 constructor
 .rintro⟨h1,h2,_,h3⟩;have ht:=h1 t (by simp)
  refine⟨⟨λz hz=>h1 z (Ye _ hz),h2⟩,?_,ht⟩;rcases last ⟨h3,h2⟩ with h | h
  .exact h
  .omega
 .rintro⟨⟨h1,h2⟩,h3,h4,h5⟩;refine⟨λz hz=>?_,h2,QC ..,λa ha b hb=>?_⟩
  .rcases Xr.mp hz with h | h
   .exact h1 z h
   .rw[XC.mp h];exact⟨h4,h5⟩
  .rw[XC.mp hb];have key:∀ {s:Ac} {a:Int},s.Pairwise (· < ·)->a∈s->a<TN s:=by
    refine λ{s}=>Nt (P:=λs=>∀ {a:Int},s.Pairwise (· < ·)->a∈s->a<TN s) (λ{a} _ h=>by cases h) (λl x ih {a} hp h=>?_) s;rw[sW];rw[Ld]at hp;rcases Xr.mp h with h | h
    .have:=hp.2.2 a h x (by simp);lia
    .rw[XC.mp h];lia
   have:=key h2 ha
   lia
theorem VZ{m:Nat}:∀ {k:Nat} {l:Ac},l∈PL (m:Int) k↔l.length=k/\IsSet m l
 | 0,l=>by
  show l∈[[]]↔_;rw[XC];constructor
  .rintro rfl;exact⟨rfl,λi z e=>by simp at e⟩
  .rintro⟨h,_⟩;exact YX.mp h
 | k+1,l=>by
  show l∈(PL (m:Int) k).flatMap (Uw m)↔_;rw[List.mem_flatMap];constructor
  .rintro⟨s,hs,hl⟩;obtain⟨t,h1,h2,rfl⟩:=Wu.mp hl;obtain⟨e,hI⟩:=VZ.mp hs;have n0:0<=TN s:=by
    unfold TN;cases q:s.getLast? with
    | none=>exact Mi 0
    | some x=>have:=(hI.all x (xJ q)).1;show 0<=x+1;lia
   exact⟨by rw[Xv,e];rfl,TM.mpr ⟨hI,h1,by lia,h2⟩⟩
  .rintro⟨e,hI⟩;have XH:l≠[]:=λz=>by rw[z]at e;simp at e
   obtain⟨s,t,rfl⟩:∃ s t,l=s++[t]:=⟨l.dropLast,l.getLast XH,(jk XH).symm⟩;obtain⟨h1,h2,h3,h4⟩:=TM.mp hI;exact⟨s,VZ.mpr ⟨by rw[Xv]at e;simpa using e,h1⟩,Wu.mpr ⟨t,h2,h4,rfl⟩⟩
theorem sV(h:IsSet m s):(Uw (m:Int) s).length<=m:=by
 unfold Uw;rw[Ya,OQ];have n0:0<=TN s:=by
  unfold TN;cases q:s.getLast? with
  | none=>exact Mi 0
  | some x=>have:=(h.all x (xJ q)).1;show 0<=x+1;lia
 omega
theorem gx:∀ L:Ab,(∀ s∈L,IsSet m s)->(L.flatMap (Uw (m:Int))).length<=m * L.length
 | [],_=>Yk _
 | s :: L,h=>by
  have:=gx L λx hx=>h x (Yf _ hx)
  have:=sV (h s Yc)
  rw[List.flatMap_cons,Xv,Yt,Nat.mul_succ];lia
theorem Hr:∀ {w t:Ac},t.Pairwise (· < ·)->w.Pairwise (· < ·)->(∀ z∈t,z∈w)->t.Sublist w
 | [],[],_,_,_=>List.Sublist.slnil
 | [],x :: t,_,_,h=>absurd (h x Yc) (by simp)
 | y :: w,[],_,_,_=>List.nil_sublist _
 | y :: w,x :: t,ht,hw,h=>by
  obtain⟨h1,h2⟩:=YV.mp ht;obtain⟨h3,h4⟩:=YV.mp hw;by_cases e:x=y
  .subst e;refine List.Sublist.cons₂ _ (Hr h2 h4 λz hz=>?_);rcases Yh.mp (h z (Yf _ hz)) with q | q
   .have:=h1 z hz;lia
   .exact q
  .have hx:x∈w:=(Yh.mp (h x Yc)).resolve_left e;refine List.Sublist.cons _ (Hr ht h4 λz hz=>?_);rcases Yh.mp (h z hz) with q | q
   .have:=h3 x hx
    rcases Yh.mp hz with q2 | q2
    .rw[q2];exact hx
    .have:=h1 z q2;lia
   .exact q
def Ot(M:Ac)(es:List (Nat × Nat)):Ac:=es.foldl (λm e=>pm m e.1 e.2) M
theorem Et(M:Ac)(es:List (Nat × Nat))(e:Nat × Nat):Ot M (es++[e])=pm (Ot M es) e.1 e.2:=by unfold Ot;rw[NU];rfl
theorem ZE6(M:Ac):∀ es:List (Nat × Nat),(Ot M es).length=M.length:=by
 intro es;unfold Ot
 induction es generalizing M with
 | nil=>rfl
 | cons e l ih=>rw[Av,ih,EM]
theorem gu{i:Int}(h0:0<=i):Xh xs none (some i)=xs.take i.toNat:=by
 have e:HT.VC xs.length xs.length (some i)=min i.toNat xs.length:=by show(if i<0 then (i+(xs.length:Int)).toNat else min i.toNat xs.length)=_;rw[if_neg (by lia)]
 unfold Xh;rw[e,HT.Wa,xj,Al];by_cases h:i.toNat<=xs.length
 .rw[GC h]
 .rw[xu (by lia),YO (XJ _),YO (by omega)]
def VP(m:Nat):Ac:=(List.range m).map λ(i:Nat)=>(i:Int)
theorem Xk{z:Int}:z∈VP m↔0<=z/\z<(m:Int):=by
 unfold VP;rw[YD];constructor
 .rintro⟨i,hi,rfl⟩
  have:=YI.mp hi
  lia
 .intro h;exact⟨z.toNat,YI.mpr (by lia),by lia⟩
theorem ZR(m:Nat):(VP m).length=m:=by unfold VP;simp
theorem RJ(m:Nat):(VP m).Pairwise (· < ·):=by unfold VP;rw[Mt];exact Qz.imp λh=>by omega
theorem zq(m:Nat):IsSet m (VP m):=XU.mpr ⟨λz hz=>Xk.mp hz,RJ m⟩
def RI(n:Nat)(ps:Aa)(G:Ac)(z:Int):Ac:=if mk (WH n (XQ ps G)) (Zx ps z).1=mk (WH n (XQ ps G)) (Zx ps z).2 then G else G++[z]
def WS(n:Nat)(ps:Aa)(zs:Ac):Ac:=zs.foldl (RI n ps) []
theorem LN(n:Nat)(ps:Aa)(zs:Ac)(z:Int):WS n ps (zs++[z])=RI n ps (WS n ps zs) z:=by unfold WS;rw[NU];rfl
theorem Nn(n:Nat)(ps:Aa)(zs:Ac):∀ ys,∃ us,WS n ps (zs++ys)=WS n ps zs++us/\us.Sublist ys:=by
 refine Nt ⟨[],by simp⟩ λys y ih=>?_;obtain⟨us,e,s⟩:=ih;rw[<- Rc,LN,e];unfold RI;split
 .exact⟨us,rfl,s.trans (List.sublist_append_left _ _)⟩
 .exact⟨us++[y],by rw[Rc],s.append (List.Sublist.refl _)⟩
theorem Nm(n:Nat)(ps:Aa)(zs:Ac):(WS n ps zs).Sublist zs:=by obtain⟨us,e,s⟩:=Nn n ps [] zs;rw[Mo]at e;rwa[e]
theorem sU(h:∀ z∈zs,0<=z/\z<(ps.length:Int)):∀ z∈WS n ps zs,0<=z/\z<(ps.length:Int):=λz hz=>h z ((Nm n ps zs).subset hz)
theorem Hq(g:Zz n ps)(h:∀ z∈zs,0<=z/\z<(ps.length:Int)):InN n.toNat (XQ ps (WS n.toNat ps zs)):=ZT g (sU h)
theorem Nl(g:Zz n ps):∀ zs:Ac,(∀ z∈zs,0<=z/\z<(ps.length:Int))->cnt (WH n.toNat (XQ ps (WS n.toNat ps zs)))+(WS n.toNat ps zs).length=n.toNat:=by
 refine Nt (λ_=>gE n.toNat) λzs z ih h=>?_;have h1:∀ z∈zs,0<=z/\z<(ps.length:Int):=λy hy=>h y (Ye _ hy)
 have ih:=ih h1;obtain⟨z0,z1⟩:=h z (Yg _ (XC.mpr rfl));have he:=TR (z:=z) g z0 z1
 have hl:=ZS n.toNat (XQ ps (WS n.toNat ps zs));rw[LN];unfold RI;split
 .exact ih
 .rename_i h;rw[JH,LU,Xv,Yp]
  have:=tq (m:=WH n.toNat (XQ ps (WS n.toNat ps zs))) (by lia) (by lia) h
  grind
theorem gr(g:Zz n ps)(h:∀ z∈zs,0<=z/\z<(ps.length:Int)):(WS n.toNat ps zs).length<=14:=by
 have:=Nl g zs h
 have:=g.2.1
 lia
theorem sT(g:Zz n ps):∀ zs:Ac,(∀ z∈zs,0<=z/\z<(ps.length:Int))->∀ {i j:Nat},Conn (XQ ps zs) i j->Conn (XQ ps (WS n.toNat ps zs)) i j:=by
 refine Nt (λ_ _ _ c=>c) λzs z IH h i j c=>?_;have h1:∀ z∈zs,0<=z/\z<(ps.length:Int):=λy hy=>h y (Ye _ hy)
 obtain⟨z0,z1⟩:=h z (Yg _ (XC.mpr rfl));have he:=TR (z:=z) g z0 z1
 have up:∀ {a b:Nat},Conn (XQ ps (WS n.toNat ps zs)) a b->Conn (XQ ps (WS n.toNat ps (zs++[z]))) a b:=λc=>by
  rw[LN];unfold RI;split
  .exact c
  .exact c.mono (ZQ λy hy=>Ye _ hy)
 have own:Conn (XQ ps (WS n.toNat ps (zs++[z]))) (Zx ps z).1 (Zx ps z).2:=by
  rw[LN];unfold RI;split
  .rename_i e;exact(Wi (Hq g h1) he.1 he.2).mp e
  .rw[JH];exact .edge (Yg _ (XC.mpr rfl))
 induction c with
 | refl i=>exact .refl i
 | symm _ ih=>exact .symm ih
 | trans _ _ i1 i2=>exact .trans i1 i2
 | @edge a b e =>
  rw[JH]at e;rcases Xr.mp e with e | e
  .exact up (IH h1 (.edge e))
  .have e:=XC.mp e;have ea:a=(Zx ps z).1:=Xx Prod.fst e
   have eb:b=(Zx ps z).2:=Xx Prod.snd e;rwa[ea,eb]
end My
namespace PyProof.Rows
open PySem
abbrev dK:Keyed:=(Value.none,Value.none)
section
variable{O:KeyOrd}{key:Keyed->O.α}{kd:SortKind}
def ke(key:Keyed->O.α)(arr:Array Keyed)(i:Nat):O.α:=key (arr.getD i dK)
def RK(O:KeyOrd)(key:Keyed->O.α)(x y:Keyed):Prop:=O.kle (key x) (key y)
abbrev LoS:=Option (Array Keyed) × Array Keyed × Nat × Nat × Nat × Nat × Nat
abbrev HiS:=Option (Array Keyed) × Nat × Nat × Array Keyed × Nat × Nat × Nat
def Es:List (List Keyed)->Nat->List (Nat × Nat)
 | [],_=>[]
 | g :: gs,o=>(o,g.length) :: Es gs (o+g.length)
structure PI (O:KeyOrd) (key:Keyed->O.α) (kd:SortKind) (a₀:Array Keyed) (st:SortSt) (JF:List (List Keyed)) (rest:List Keyed):Prop where
 kind:kindOf st=kd
 fail:failedOf st=none
 perm:(arrOf st).Perm a₀
 arr:(arrOf st).toList=JF.flatten++rest
 srt:∀ g∈JF,1<=g.length/\g.Pairwise (RK O key)
 pend:(pendingOf st).toList.map (λp=>(p.1,p.2.1))=Es JF 0
end
end PyProof.Rows
namespace L2
open PySem PySem.Spec PyProof.Rows
section
def sameBut(a:Addr)(h h':Heap):Prop:=∀ b o,b≠a->h.get? b=some o->h'.get? b=some o
end
end L2
namespace My
open PySem L2
abbrev Nk(a b:Ac):Prop:=HT.lexLt a b=true
theorem gq:∀(p a b:Ac),HT.lexLt (p++a) (p++b)=HT.lexLt a b
 | [],a,b=>rfl
 | x :: p,a,b=>by rw[GF,GF,HT.Xj,if_pos rfl,gq p]
theorem gp:∀ {s t:Ac} (a b:Ac),s.length=t.length->HT.lexLt s t=true->HT.lexLt (s++a) (t++b)=true
 | [],[],a,b,_,h=>by cases h
 | [],_ :: _,a,b,e,_=>by simp at e
 | _ :: _,[],a,b,e,_=>by simp at e
 | x :: s,y :: t,a,b,e,h=>by
  rw[HT.Xj]at h;rw[GF,GF,HT.Xj];split
  .rename_i q;rw[if_pos q]at h;exact gp a b (by simpa using e) h
  .rename_i q;rwa[if_neg q]at h
theorem sS(m:Int):∀ k,∀ l∈PL m k,l.length=k
 | 0,l,h=>by rw[XC.mp h];rfl
 | k+1,l,h=>by obtain⟨s,hs,hl⟩:=List.mem_flatMap.mp h;obtain⟨t,_,_,rfl⟩:=Wu.mp hl;rw[Xv,sS m k s hs];rfl
theorem gn(m:Int):∀ k,(PL m k).Pairwise Nk
 | 0=>QC ..
 | k+1=>by
  show((PL m k).flatMap (Uw m)).Pairwise Nk;rw[List.pairwise_flatMap];refine⟨λs _=>?_,ja (λ{s t} hs ht VE=>?_) (gn m k)⟩
  .unfold Uw;rw[Mt];refine Qz.imp λ{i j} TV=>?_;show HT.lexLt _ _=true
   rw[gq,HT.Xj,if_neg (by lia)];exact Yr (by lia)
  .intro x hx y hy;obtain⟨u,_,_,rfl⟩:=Wu.mp hx;obtain⟨v,_,_,rfl⟩:=Wu.mp hy;exact gp _ _ (by rw[sS m k s hs,sS m k t ht]) VE
theorem LM{α:Type}[DecidableEq α]:∀ {l m:List α},l.Nodup->(∀ x∈l,x∈m)->l.length<=m.length
 | [],m,_,_=>Yk _
 | x :: l,m,h,hs=>by
  obtain⟨h1,h2⟩:=Rb.mp h;have hx:=hs x Yc
  have:=LM (l:=l) (m:=m.erase x) h2 λy hy=>(xI (λ(e:y=x)=>h1 (e ▸ hy))).mpr (hs y (Yf _ hy))
  rw[xP hx]at this
  have:=Ij hx
  rw[Yt];grind
end My
namespace L2
open PySem PySem.Spec PyProof.Rows
section
variable{X:Cx}
theorem Er (K:Ad) (hc:X.calm=true) (hk:X.K=K:=by rfl):VM X (.builtin "min") (λxs H Q=>∃(p:Addr) (ns:Ac),xs=[.ref p]/\SqL K H p (ns.map V.int)/\0<ns.length/\∀ m:Int,m∈ns->(∀ a∈ns,m<=a)->Q (.int m) H):=by
 subst hk;intro pins s σ H xs us Q I r h;obtain⟨p,ns,rfl,hq,hn,q⟩:=h;obtain⟨u,rfl,ru⟩:=WJ r;obtain rfl:u=Value.ref p:=ru;obtain⟨XW,rv,pl,hz⟩:=I.list hq;have hi:=ZL rv
 obtain⟨xs,e⟩:=hi.allInts.items;have Uh:ns=xs.toList.map (·.1):=by rw[<- hi.numsOf,<- nums_intItems,<- e]
 have hsz:0<xs.size:=by rwa[Uh,Ya,YB]at hn
 have hl:=pl.isList;rw[e]at hl;refine min_intList (I.ok.hd hc) hl hsz λv h' tk hv hk=>?_;obtain⟨t,rfl⟩:=intItems_at hv;obtain⟨h1,h2⟩:=argBest_lt (numAt xs) (xs.size - 1);refine⟨.int _,H,I.kept (t':=tk) hk,⟨t,rfl⟩,q _ ?_ λa ha=>?_⟩
 .rw[Uh,numAt_eq];exact getD_mem (by rw[Ya,YB];grind)
 .rw[Uh]at ha;obtain⟨j,hj,rfl⟩:=mem_getD ha;rw[Ya,YB]at hj;rw[<- numAt_eq];exact h2 j (by grind)
end
end L2
namespace My
open PySem L2
theorem sR(g:Zz n ps)(hT:Ze n ps T)(z0:0<=z)(z1:z<(ps.length:Int)):Conn (XQ ps (UW n ps T z T)) (Zx ps z).1 (Zx ps z).2:=by
 have he:=TR (z:=z) g z0 z1;have key:∀ D:Ac,(∀ o∈D,o∈T/\z∉VQ n ps T o)->Conn (XQ ps (T.filter λy=>decide (y∉D))) (Zx ps z).1 (Zx ps z).2:=by
  intro D
  induction D with
  | nil =>
   intro _;have e:(T.filter λy=>decide (y∉([]:Ac)))=T:=xF.mpr λy _=>by simp
   rw[e];exact hT.2.2 _ _ he.1 he.2
  | cons o D ih =>
   intro hD;have c:=ih λy hy=>hD y (Yf _ hy)
   obtain⟨zp,z5⟩:=hD o Yc;by_cases zS:o∈D
   .refine c.mono (ZQ λy hy=>?_);obtain⟨h1,h2⟩:=Yd.mp hy;have h2:=Yo h2
    exact Yd.mpr ⟨h1,Yr λh=>(Yh.mp h).elim (λe=>h2 (e ▸ zS)) h2⟩
   .refine Yx λTo=>?_;have Ep:∀ y,y∈(T.filter λy=>decide (y∉o :: D))->y∈wo T o:=λy hy=>by
     obtain⟨h1,h2⟩:=Yd.mp hy;have h2:=Yo h2
     exact Xo.mpr ⟨h1,λe=>h2 (by rw[e];exact Yc)⟩
    have c2:Conn (XQ ps ((T.filter λy=>decide (y∉o :: D))++[o])) (Zx ps z).1 (Zx ps z).2:=(Ux λy=>by
     rw[Xr,Yd,Yd,XC];simp only [KZ,Yh,not_or];constructor
     .rintro⟨h1,h2⟩;by_cases e:y=o
      .exact .inr e
      .exact .inl ⟨h1,e,h2⟩
     .rintro(⟨h1,_,h2⟩ | e)
      .exact⟨h1,h2⟩
      .rw[e];exact⟨zp,zS⟩).mp c
    have Wm:∀ y∈(T.filter λy=>decide (y∉o :: D)),0<=y/\y<(ps.length:Int):=λy hy=>hT.1.all y (Yd.mp hy).1;obtain⟨o0,o1⟩:=hT.1.all o zp;have WC:InN n.toNat (XQ ps (T.filter λy=>decide (y∉o :: D))):=ZT g Wm
    have sQ:InN n.toNat (XQ ps ((T.filter λy=>decide (y∉o :: D))++[o])):=ZT g λy hy=>by
     rcases Xr.mp hy with h | h
     .exact Wm y h
     .rw[XC.mp h];exact⟨o0,o1⟩
    have Ht:=TR (z:=o) g o0 o1;have hl:=ZS n.toNat (XQ ps (T.filter λy=>decide (y∉o :: D)))
    have own:¬ Conn (XQ ps (wo T o)) (Zx ps o).1 (Zx ps o).2:=(ZX g hT o0 o1).mp ((Hs g hT zp zp).mpr rfl);have cw:Conn (XQ ps (wo T o)) (Zx ps z).1 (Zx ps z).2:=Yx λh=>z5 ((ZX g hT z0 z1).mpr h)
    have up:∀ {i j:Nat},i<n.toNat->j<n.toNat->mk (WH n.toNat (XQ ps (T.filter λy=>decide (y∉o :: D)))) i=mk (WH n.toNat (XQ ps (T.filter λy=>decide (y∉o :: D)))) j->Conn (XQ ps (wo T o)) i j:=λhi hj e=>((Wi WC hi hj).mp e).mono (ZQ Ep);have m:=(Wi sQ he.1 he.2).mpr c2
    rw[JH,LU,EK (by lia) (by lia)]at m;rcases m with m | ⟨m1,m2⟩
    .exact To ((Wi WC he.1 he.2).mp m)
    .rcases m1 with m1 | m1 <;> rcases m2 with m2 | m2
     .exact To ((Wi WC he.1 he.2).mp (m1.trans m2.symm))
     .exact own (((up he.1 Ht.1 m1).symm.trans cw).trans (up he.2 Ht.2 m2))
     .exact own (((up he.2 Ht.1 m2).symm.trans cw.symm).trans (up he.1 Ht.2 m1))
     .exact To ((Wi WC he.1 he.2).mp (m1.trans m2.symm))
 have c:=key (T.filter λy=>decide (z∉VQ n ps T y)) λo ho=>by obtain⟨h1,h2⟩:=Yd.mp ho;exact⟨h1,Yo h2⟩
 refine c.mono (ZQ λy hy=>?_);obtain⟨h1,h2⟩:=Yd.mp hy;have h2:=Yo h2
 exact Xl.mpr ⟨h1,Yx λh=>h2 (Yd.mpr ⟨h1,Yr h⟩)⟩
theorem Eo(g:Zz n ps)(hT:Ze n ps T)(hW:Ze n ps W)(hz:z∈W)(LL:z∉T):∃ o∈UW n ps T z T,o∉W:=by
 obtain⟨z0,z1⟩:=hW.1.all z hz;refine Yx λTo=>?_;refine(ZX g hW z0 z1).mp ((Hs g hW hz hz).mpr rfl) ((sR g hT z0 z1).mono (ZQ λy hy=>?_));have hy1:=Xl.mp hy
 refine Xo.mpr ⟨Yx λh=>To ⟨y,hy,h⟩,λe=>LL (e ▸ hy1.1)⟩
inductive WP (n:Int) (ps:Aa) (W:Ac) (T0:Ac):Ac->Aa->Ac->Prop
 | nil:WP n ps W T0 [] [] T0
 | skip {l:Ac} {ws:Aa} {T:Ac} {z:Int}:WP n ps W T0 l ws T->z∈T->WP n ps W T0 (l++[z]) ws T
 | step {l:Ac} {ws:Aa} {T T':Ac} {z o:Int}:WP n ps W T0 l ws T->z∉T->o∈UW n ps T z T->o∉W->(∀ y∈UW n ps T z T,y∉W->o<=y)->T'.Perm (wo T o++[z])->T'.Pairwise (·<=·)->WP n ps W T0 (l++[z]) (ws++[(o,z)]) T'
def Leads(n:Int)(ps:Aa):Ac->Aa->Ac->Prop
 | T,[],U=>T=U
 | T,(o,z) :: ws,U=>o∈T/\z∉T/\∃ T',T'.Perm (wo T o++[z])/\T'.Pairwise (·<=·)/\Ze n ps T'/\Leads n ps T' ws U
theorem Leads.snoc{n:Int}{ps:Aa}{U V:Ac}{o z:Int}:∀ {ws:Aa} {T:Ac},Leads n ps T ws U->o∈U->z∉U->V.Perm (wo U o++[z])->V.Pairwise (·<=·)->Ze n ps V->Leads n ps T (ws++[(o,z)]) V
 | [],T,h,h1,h2,h3,h4,h5=>by have h:T=U:=h;subst h;exact⟨h1,h2,V,h3,h4,h5,rfl⟩
 | (o',z') :: ws,T,⟨a1,a2,T',a3,a4,a5,a6⟩,h1,h2,h3,h4,h5=>⟨a1,a2,T',a3,a4,a5,Leads.snoc a6 h1 h2 h3 h4 h5⟩
theorem WP.facts(g:Zz n ps)(LW:Ze n ps T0)(h:WP n ps W T0 l ws T)(hl:∀ z∈l,z∈W)(hW:Ze n ps W) :
  Ze n ps T/\(∀ z∈l,z∈T)/\Leads n ps T0 ws T/\ws.length+(T.filter λy=>decide (y∉W)).length=(T0.filter λy=>decide (y∉W)).length:=by
 induction h with
 | nil=>exact⟨LW,λz h=>(by cases h),rfl,by simp⟩
 | @skip l ws T z h1 h2 ih =>
  obtain⟨i1,i2,i3,i4⟩:=ih λy hy=>hl y (Ye _ hy);refine⟨i1,λy hy=>?_,i3,i4⟩;rcases Xr.mp hy with h | h
  .exact i2 y h
  .rw[XC.mp h];exact h2
 | @step l ws T T' z o h1 h2 h3 h4 h5 h6 h7 ih =>
  obtain⟨i1,i2,i3,i4⟩:=ih λy hy=>hl y (Ye _ hy);have hz:=hl z (Yg _ (XC.mpr rfl))
  have hr:=Xl.mp h3;have hx:exg n ps T o z:=⟨hr.1,λe=>h2 (e ▸ hr.1),hr.2⟩
  have zm:=LO g i1 hx h6 h7;have mem:∀ y,y∈T'↔(y∈T/\y≠o)\/y=z:=λy=>by rw[h6.mem_iff,Xr,Xo,XC]
  refine⟨zm,λy hy=>?_,i3.snoc hr.1 h2 h6 h7 zm,?_⟩
  .rw[mem];rcases Xr.mp hy with h | h
   .refine .inl ⟨i2 y h,λe=>h4 (by rw[<- e];exact hl y (Ye _ h))⟩
   .exact .inr (XC.mp h)
  .have e1:(T'.filter λy=>decide (y∉W)).length=((wo T o++[z]).filter λy=>decide (y∉W)).length:=(h6.filter _).length_eq;have e2:((wo T o++[z]).filter λy=>decide (y∉W))=wo (T.filter λy=>decide (y∉W)) o:=by
    rw[Rf,YN,if_neg (by simpa using hz),As,YE];unfold wo;rw[Az,Az];congr 1
    funext y
    rw[Bool.and_comm]
   have Ti:(T.filter λy=>decide (y∉W)).Nodup:=i1.1.nodup.sublist List.filter_sublist;have e3:=sY Ti (Yd.mpr ⟨hr.1,Yr h4⟩)
   rw[e1,e2,Xv,Yp];lia
theorem WP.end(g:Zz n ps)(LW:Ze n ps T0)(h:WP n ps W T0 W ws T)(hW:Ze n ps W):T=W/\Leads n ps T0 ws W/\ws.length=(T0.filter λy=>decide (y∉W)).length:=by
 obtain⟨f1,f2,f3,f4⟩:=h.facts g LW (λ_ h=>h) hW;have hs:=Hr (XU.mp hW.1).2 (XU.mp f1.1).2 f2
 have e:W=T:=hs.eq_of_length (by have:=f1.2.1;have:=hW.2.1;lia);subst e;refine⟨rfl,f3,?_⟩
 have:(W.filter λy=>decide (y∉W))=[]:=xN.mpr λy hy=>by simpa using hy
 rw[this]at f4;simpa using f4
theorem sP{a b:Ac}(ha:a.Pairwise (· < ·))(hb:b.Pairwise (· < ·))(h:∀ z,z∈a↔z∈b):a=b :=
 (Hr ha hb λz hz=>(h z).mp hz).eq_of_length (KH (Hr ha hb λz hz=>(h z).mp hz).length_le (Hr hb ha λz hz=>(h z).mpr hz).length_le)
theorem zk{i:Int}(h0:0<=i):Xh xs (some i) none=xs.drop i.toNat:=by
 have e:HT.VC xs.length 0 (some i)=min i.toNat xs.length:=by show(if i<0 then (i+(xs.length:Int)).toNat else min i.toNat xs.length)=_;rw[if_neg (by lia)]
 unfold Xh;rw[e,HT.Wa,YO (by rw[Wx];exact XJ _)];by_cases h:i.toNat<=xs.length
 .rw[GC h]
 .rw[xu (by lia),Ii (XJ _),Ii (by omega)]
def cutz{α:Type}(l:List α)(z:Int):List α:=l.take z.toNat++l.drop (z.toNat+1)
theorem sO{z:Int}(h0:0<=z):Xh xs none (some z)++Xh xs (some (z+1)) none=cutz xs z:=by rw[gu h0,zk (by lia),show(z+1).toNat=z.toNat+1 by lia];rfl
theorem sN{α:Type}(l:List α)(z:Int):(cutz l z).length<=l.length:=by unfold cutz;rw[Xv,Yj,Wx];grind
def dn(lo hi i:Int):Int:=if i=hi then lo else if i<hi then i else i - 1
theorem gm(i:Nat):VP (i+1)=VP i++[(i:Int)]:=by unfold VP;rw[GB,YJ];rfl
end My
namespace L2
open PySem PySem.Spec PyProof.Rows
theorem So{N a b:St->Hp->Prop}{r:VK}{σ:St}{H:Hp}(h:N σ H):Ends.nx { nx:=N,rt:=r,bk:=a,ct:=b } σ H:=h
end L2
namespace My
theorem En{α:Type}{l:List α}(h:l.length=1):∃ a,l=[a]:=by
 cases l with
 | nil=>cases h
 | cons a l=>cases l with
  | nil=>exact⟨a,rfl⟩
  | cons b l=>simp at h
theorem Em{α:Type}{l:List α}(h:l.length=2):∃ a b,l=[a,b]:=by
 cases l with
 | nil=>cases h
 | cons a l =>
  obtain⟨b,rfl⟩:=En (NY h);exact⟨a,b,rfl⟩
theorem El{α:Type}{l:List α}(h:l.length=3):∃ a b c,l=[a,b,c]:=by
 cases l with
 | nil=>cases h
 | cons a l =>
  obtain⟨b,c,rfl⟩:=Em (NY h);exact⟨a,b,c,rfl⟩
theorem Ek{α:Type}{l:List α}(h:l.length=4):∃ a b c d,l=[a,b,c,d]:=by
 cases l with
 | nil=>cases h
 | cons a l =>
  obtain⟨b,c,d,rfl⟩:=El (NY h);exact⟨a,b,c,d,rfl⟩
end My
namespace L2
open PySem PySem.Spec PyProof.Rows
section
variable{X:Cx}
theorem ZY5 (K:Ad) (hk:X.K=K:=by rfl):VM X (.type "tuple") (λxs H Q=>∃(p:Addr) (ys:List V) (kd:Bool),xs=[.ref p]/\My.SqK kd K H p ys/\∀(r:Addr) (H':Hp),Same H H'->My.SqK true K H' r ys->Q (.ref r) H'):=by
 intro pins s σ H xs us Q I r h;obtain⟨p,ys,kd,rfl,hq,q⟩:=h;refine ZG K hk pins s σ H _ us Q I r ⟨p,ys,rfl,?_⟩;cases kd with
 | false=>exact .inl ⟨hq,λl hl=>q l _ (My.XZ hl) (SqT.of XS)⟩
 | true=>exact .inr ⟨hq,q p H (Same.refl H) hq⟩
end
end L2
namespace My
open PySem L2
theorem SqK.mutL{a d:Addr}{xs ys zs:List V}(h:SqK true K H a xs)(hd:H d=some (.lst ys)):SqK true K (upd H d (.lst zs)) a xs:=by
 rcases h with h | h
 .refine .inl ?_;rcases h with h | ⟨o,h⟩
  .exact .inl (by rwa[Za (VG h hd (λz=>nomatch z))])
  .exact .inr ⟨o,by rwa[Za (VG h hd (λz=>nomatch z))]⟩
 .exact .inr h
theorem Zw{l:Ac}{f:Int->Bool}{y:Int}(h:l[i]?=some y):(l.take (i+1)).filter f=(l.take i).filter f++(if f y=true then [y] else []):=by
 rw[YL,h,Rf];congr 1;by_cases e:f y=true
 .rw[if_pos e];show List.filter _ [y]=_;rw[YN,if_pos e];rfl
 .rw[if_neg e];show List.filter _ [y]=_;rw[YN,if_neg e];rfl
theorem Conn.lift(h:∀ e∈es,Conn fs e.1 e.2)(c:Conn es i j):Conn fs i j:=by
 induction c with
 | refl i=>exact .refl i
 | edge e=>exact h _ e
 | symm _ ih=>exact ih.symm
 | trans _ _ PK Th=>exact PK.trans Th
theorem Nj(g:Zz n ps)(hT:Ze n ps T)(hW:Ze n ps W)(hz:z∈T)(Tg:z∉W):∃ y,exg n ps T z y/\exg n ps W y z:=by
 obtain⟨z0,z1⟩:=hT.1.all z hz;refine Yx λTo=>?_;refine(ZX g hT z0 z1).mp ((Hs g hT hz hz).mpr rfl) ((sR g hW z0 z1).lift λe he=>?_);unfold XQ at he;obtain⟨y,hy,rfl⟩:=YD.mp he;obtain⟨Ej,hyc⟩:=Xl.mp hy;obtain⟨y0,y1⟩:=hW.1.all y Ej;have gk:y≠z:=λe=>Tg (e ▸ Ej)
 have:=(ZX (o:=z) g hT y0 y1)
 exact Yx λh=>To ⟨y,⟨hz,gk,this.mpr h⟩,⟨Ej,XG gk,hyc⟩⟩
theorem Ei(g:Zz n ps)(hT:Ze n ps T)(Wh:ms.Perm (wo T o++[z]))(hM:Ze n ps ms)(ho:o∈T)(hz:z∉T)(z0:0<=z)(z1:z<(ps.length:Int)):exg n ps T o z :=
 (LP g hT).mpr ⟨ho,hz,z0,z1,λi j hi hj=>(Ux λy=>Wh.mem_iff).mp (hM.2.2 i j hi hj)⟩
theorem sM(l:Ac):∃ m:Ac,m.Perm l/\m.Pairwise (·<=·):=by
 induction l with
 | nil=>exact⟨[],.refl _,.nil⟩
 | cons x l ih =>
  obtain⟨m,h1,h2⟩:=ih;have key:∀ m:Ac,m.Pairwise (·<=·)->∃ k:Ac,k.Perm (x :: m)/\k.Pairwise (·<=·):=by
   intro m
   induction m with
   | nil=>intro _;exact⟨[x],.refl _,QC _ _⟩
   | cons y m Th =>
    intro hp;obtain⟨hy,hm⟩:=YV.mp hp;by_cases LK:x<=y
    .refine⟨x :: y :: m,.refl _,YV.mpr ⟨λz hz=>?_,hp⟩⟩;rcases Yh.mp hz with e | e
     .rw[e];exact LK
     .exact HV LK (hy z e)
    .obtain⟨k,k1,k2⟩:=Th hm;refine⟨y :: k,(k1.cons y).trans (List.Perm.swap x y m),YV.mpr ⟨λz hz=>?_,k2⟩⟩;rcases Yh.mp (k1.mem_iff.mp hz) with e | e
     .rw[e];lia
     .exact hy z e
  obtain⟨k,k1,k2⟩:=key m h2;exact⟨k,k1.trans (h1.cons x),k2⟩
end My
namespace L2
open PySem PySem.Spec PyProof.Rows
section
variable{X:Cx}
theorem ZZ5 (K:Ad) (hk:X.K=K:=by rfl):VM X (.type "tuple") (λxs H Q=>∃(p:Addr) (ys:List V),xs=[.ref p]/\(H p=some (.tup ys)\/SqL K H p ys)/\∀(r:Addr) (H':Hp),Same H H'->H' r=some (.tup ys)->Q (.ref r) H'):=by
 intro pins s σ H xs us Q I r h;obtain⟨p,ys,rfl,hq,q⟩:=h;refine ZG K hk pins s σ H _ us Q I r ⟨p,ys,rfl,?_⟩;rcases hq with hq | hq
 .exact .inr ⟨SqT.of hq,q p H (Same.refl H) hq⟩
 .exact .inl ⟨hq,λl hl=>q l _ (My.XZ hl) XS⟩
end
end L2
namespace My
open PySem L2
inductive Wk (n:Int) (ps:Aa) (T0:Ac):Aa->Ac->Prop
 | nil:Wk n ps T0 [] T0
 | step {ws:Aa} {T T':Ac} {o z:Int}:Wk n ps T0 ws T->exg n ps T o z->T'.Perm (wo T o++[z])->T'.Pairwise (·<=·)->Wk n ps T0 (ws++[(o,z)]) T'
theorem Wk.tree(g:Zz n ps)(hT:Ze n ps T0)(h:Wk n ps T0 ws U):Ze n ps U:=by
 induction h with
 | nil=>exact hT
 | step _ h2 h3 h4 ih=>exact LO g ih h2 h3 h4
theorem Wk.last{T0 U:Ac}(h:Wk n ps T0 (ws++[(o,z)]) U):∃ T,Wk n ps T0 ws T/\exg n ps T o z/\U.Perm (wo T o++[z])/\U.Pairwise (·<=·):=by
 generalize hl:ws++[(o,z)]=l at h;cases h with
 | nil=>simp at hl
 | step k1 k2 k3 k4 =>
  obtain⟨rfl,e⟩:=List.append_inj' hl rfl;cases e;exact⟨_,k1,k2,k3,k4⟩
theorem Wk.uniq(h:Wk n ps T0 ws U):∀ {V},Wk n ps T0 ws V->U=V:=by
 induction h with
 | nil =>
  intro V k;generalize hl:([]:Aa)=l at k;cases k with
  | nil=>rfl
  | step _ _ _ _=>simp at hl
 | step h1 h2 h3 h4 ih =>
  intro V k;obtain⟨T,k1,k2,k3,k4⟩:=k.last;obtain rfl:=ih k1;exact EB (h3.trans k3.symm) h4 k4
def gj(n:Int)(ps:Aa)(T0:Ac)(ws:Aa):Prop:=∃(i:Nat) (o z:Int) (U:Ac),ws[i]?=some (o,z)/\Wk n ps T0 (ws.take i) U/\¬ exg n ps U o z
theorem Eh(s:SameP M N):cnt M=cnt N:=by
 unfold cnt VB;rw[<- s.1];refine Xx List.length (Ms λp hp=>?_);have hp:=YI.mp hp
 rw[Sa,Xz,Xz];constructor
 .intro h i hi e;exact h i hi ((s.2 i p (by lia) hp).mpr e)
 .intro h i hi e;exact h i hi ((s.2 i p (by lia) hp).mp e)
theorem gh(g:Zz n ps)(hU:Ze n ps U):∀ V:Ac,V.Nodup->(∀ z∈V,z∈U)->WS n.toNat ps V=V:=by
 refine Nt (λ_ _=>rfl) λV z ih hn hs=>?_;have Qt:=Wr.mp hn
 have hV:∀ y∈V,y∈U:=λy hy=>hs y (Ye _ hy);have hz:z∈U:=hs z (Yg _ (XC.mpr rfl))
 have hzV:z∉V:=λh=>Qt.2.2 z h z (XC.mpr rfl) rfl;obtain⟨z0,z1⟩:=hU.1.all z hz;have he:=TR (z:=z) g z0 z1
 rw[LN,ih Qt.1 hV];unfold RI;rw[if_neg];intro e;have c:=(Wi (ZT g λy hy=>hU.1.all y (hV y hy)) he.1 he.2).mp e
 exact(ZX g hU z0 z1).mp ((Hs g hU hz hz).mpr rfl) (c.mono (ZQ λy hy=>Xo.mpr ⟨hV y hy,λe'=>hzV (by rwa[<- e'])⟩))
theorem sL{as bs:Ac}(g:Zz n ps)(h:∀ y∈as,0<=y/\y<(ps.length:Int))(z0:0<=z)(z1:z<(ps.length:Int))(hz:z∉WS n.toNat ps (as++z :: bs)):Conn (XQ ps (WS n.toNat ps as)) (Zx ps z).1 (Zx ps z).2:=by
 obtain⟨us,e,_⟩:=Nn n.toNat ps (as++[z]) bs;rw[Rc]at e;have e:WS n.toNat ps (as++z :: bs)=WS n.toNat ps (as++[z])++us:=e
 rw[e,LN]at hz;have he:=TR (z:=z) g z0 z1
 refine(Wi (Hq g h) he.1 he.2).mp (Yx λXH=>hz ?_);unfold RI;rw[if_neg XH];exact Ye _ (Yg _ (XC.mpr rfl))
theorem sJ{as bs:Ac}{y:Int}(h:y∈WS n ps as):y∈WS n ps (as++bs):=by obtain⟨us,e,_⟩:=Nn n ps as bs;rw[e];exact Ye _ h
theorem gf{α:Type}(p:α->Bool)(l:List α):(l.filter p).length+(l.filter λx=>!p x).length=l.length:=by
 induction l with
 | nil=>rfl
 | cons x l ih =>
  rw[YN,YN];cases p x with
  | true=>simp only [OO,Bool.not_true,GJ,KJ,Yt];lia
  | false=>simp only [Bool.not_false,OO,GJ,KJ,Yt];lia
def Fr(n:Nat)(ps:Aa)(l:Ac):Bool:=decide (WS n ps l=l)
def Up(n:Nat)(ps:Aa)(k:Nat):Ab:=(PL (ps.length:Int) k).filter (Fr n ps)
theorem sI(g:Zz n ps):l∈Up n.toNat ps (n - 1).toNat↔Ze n ps l:=by
 unfold Up;rw[Yd,VZ];have g1:=g.1
 constructor
 .rintro⟨⟨h1,h2⟩,h3⟩;have e:WS n.toNat ps l=l:=Yo h3
  have c:=Nl g l h2.all;rw[e]at c;exact⟨h2,by lia,(LQ (by grind) (ZT g h2.all)).mp (by grind)⟩
 .intro h;exact⟨⟨by have:=h.2.1;lia,h.1⟩,Yr (gh g h l h.1.nodup λz hz=>hz)⟩
theorem zj(hT:Ze n ps T):T.Pairwise (· < ·):=(XU.mp hT.1).2
theorem Vi{a:Ac}(h:a.Pairwise (·<=·))(hn:a.Nodup):a.Pairwise (· < ·):=(h.and hn).imp λh=>by have:=h.1;have:=h.2;lia
theorem Zx8(g:Zz n ps):∀ zs:Ac,(∀ z∈zs,0<=z/\z<(ps.length:Int))->(WS n.toNat ps zs).Nodup:=by
 refine Nt (λ_=>List.Pairwise.nil) λzs z ih hb=>?_;have Qe:∀ y∈zs,0<=y/\y<(ps.length:Int):=λy hy=>hb y (Ye _ hy)
 obtain⟨z0,z1⟩:=hb z (Yg _ (XC.mpr rfl));have he:=TR (z:=z) g z0 z1
 rw[LN];unfold RI;split
 .exact ih Qe
 .next XH =>
  refine Wr.mpr ⟨ih Qe,by simp,λa ha b sH e=>?_⟩;rw[XC.mp sH]at e;subst e;refine XH ((Wi (Hq g Qe) he.1 he.2).mpr (.edge ?_));exact YD.mpr ⟨a,ha,rfl⟩
theorem ZS5(g:Zz n ps)(hb:∀ z∈zs,0<=z/\z<(ps.length:Int))(hl:¬ ((WS n.toNat ps zs).length:Int)<n - 1)(Wh:ms.Perm (WS n.toNat ps zs))(TQ:ms.Pairwise (·<=·)):Ze n ps ms:=by
 have g1:=g.1;have h2:=Nl g zs hb
 have h3:=sZ (M:=WH n.toNat (XQ ps (WS n.toNat ps zs))) (by rw[ZS];grind);have PJ:=(LQ (by grind) (Hq g hb)).mp (by grind)
 refine⟨XU.mpr ⟨λz hz=>hb z ((Nm _ _ _).subset (Wh.mem_iff.mp hz)),Vi TQ (Wh.nodup_iff.mpr (Zx8 g zs hb))⟩,by rw[Wh.length_eq];grind,λi j hi hj=>?_⟩;exact(Ux λy=>Wh.mem_iff).mpr (PJ i j hi hj)
theorem sG{I os U:Ac}(g:Zz n ps)(hU:Ze n ps U)(hI:I.Nodup)(sF:∀ z∈I,z∈U)(sE:∀ z∈U,z∈I++os)(hb:∀ z∈I++os,0<=z/\z<(ps.length:Int)):(WS n.toNat ps (I++os)).take I.length=I/\¬ ((WS n.toNat ps (I++os)).length:Int)<n - 1:=by
 have g1:=g.1;obtain⟨us,e,_⟩:=Nn n.toNat ps I os;rw[gh g hU I hI sF]at e;refine⟨by rw[e,List.take_left],?_⟩;have PJ:∀ i j,i<n.toNat->j<n.toNat->Conn (XQ ps (WS n.toNat ps (I++os))) i j:=λi j hi hj=>sT g _ hb ((hU.2.2 i j hi hj).mono (ZQ sE))
 have h1:=(LQ (by lia) (Hq g hb)).mpr PJ;have h2:=Nl g (I++os) hb
 grind
theorem zh{p r:Ac}{x:Int}(h:(p++x :: r).Pairwise (· < ·)):(∀ z∈p,z<x)/\∀ z∈x :: r,x<=z:=by
 have a:=Ld.mp h;refine⟨λz hz=>a.2.2 z hz x Yc,λz hz=>?_⟩;rcases Yh.mp hz with h | h
 .rw[h];exact Mi _
 .exact HU ((YV.mp a.2.1).1 z h)
theorem sD{I os U F:Ac}(g:Zz n ps)(hU:Ze n ps U)(sF:∀ z∈I,z∈U)(sE:∀ z∈U,z∈I++os)(hb:∀ z∈I++os,0<=z/\z<(ps.length:Int))(ho:os.Pairwise (· < ·))(hF:Ze n ps F)(hf:F.Perm (WS n.toNat ps (I++os)))(hIF:∀ z∈I,z∈F):HT.lexLt U F=false:=by
 cases QT:HT.lexLt U F with
 | false=>rfl
 | true =>
  exfalso;obtain⟨p,x,y,r,s,eU,ef,LK⟩:=Ew (by have:=hF.2.1;have:=hU.2.1;lia) QT
  have JE:x∈U:=by rw[eU];exact Yg _ Yc
  obtain⟨x0,x1⟩:=hU.1.all x JE;have aU:=zh (eU ▸ zj hU)
  have aF:=zh (ef ▸ zj hF);have sC:x∉F:=λh=>by
   rw[ef]at h;rcases Xr.mp h with h | h
   .have:=aU.1 x h
    lia
   .have:=aF.2 x h
    lia
  have hxI:x∉I:=λh=>sC (hIF x h);have hxo:x∈os:=(Xr.mp (sE x JE)).resolve_left hxI
  obtain⟨as,bs,eo⟩:=List.append_of_mem hxo;have ao:=zh (eo ▸ ho)
  have Qe:∀ z∈I++as,0<=z/\z<(ps.length:Int):=λz hz=>hb z ((Xr.mp hz).elim (λh=>Ye _ h) λh=>Yg _ (by rw[eo];exact Ye _ h));have hxG:x∉WS n.toNat ps ((I++as)++x :: bs):=by rw[Rc,<- eo];exact λh=>sC (hf.mem_iff.mpr h)
  have c:=sL g Qe x0 x1 hxG;refine(ZX g hU x0 x1).mp ((Hs g hU JE JE).mpr rfl) (c.mono (ZQ λz hz=>?_));have Ho:z∈F:=hf.mem_iff.mpr (by
   have:=sJ (bs:=x :: bs) hz
   rwa[Rc,<- eo]at this)
  have hzx:z≠x:=λe=>sC (e ▸ Ho);refine Xo.mpr ⟨?_,hzx⟩;rcases Xr.mp ((Nm _ _ _).subset hz) with h | h
  .exact sF z h
  .have h1:=ao.1 z h;rw[ef]at Ho;rcases Xr.mp Ho with h | h
   .rw[eU];exact Ye _ h
   .have:=aF.2 z h
    lia
def With(n:Int)(ps:Aa)(I O U:Ac):Prop:=Ze n ps U/\(∀ z∈I,z∈U)/\∀ z∈O,z∉U
theorem With.sub{I O U os:Ac}(h:With n ps I O U)(ho:∀ z,z∈os↔(0<=z/\z<(ps.length:Int))/\z∉O):∀ z∈U,z∈I++os:=λz hz=>Yg _ ((ho z).mpr ⟨h.1.1.all z hz,λh2=>h.2.2 z h2 hz⟩)
end My
namespace L2
open PySem PySem.Spec PyProof.Rows
def sy(K:Ad):R2:=λx y H Q=>∃ l b xs zs,x=.ref l/\y=.ref b/\SqL K H l xs/\SqL K H b zs/\xs.length+zs.length<=sizeLine/\∀ p,H p=none->Q (.ref p) (upd H p (.lst (xs++zs)))
section
variable{X:Cx}
theorem sv(K:Ad)(hk:X.K=K:=by rfl):WK X (binaryOp .Add) (sy K):=by
 subst hk;intro pins s σ H x y v u Q I rx ry h;obtain⟨l,b,xs,zs,rfl,rfl,hH,hB,hz,q⟩:=h;cases rx;cases ry;obtain⟨XW,r,p,_⟩:=I.list hH;obtain⟨Ww,r2,p2,_⟩:=I.list hB;have l1:=r.length
 have l2:=r2.length;obtain⟨⟨cls,dd,data,sl⟩,ho,hc,n,hd⟩:=id p.isList;obtain⟨⟨FC,HG,data2,HF⟩,Uk,VL,n2,hd2⟩:=id p2.isList;simp only at hc hd VL hd2;subst hc hd VL hd2;have e:XW.toArray++Ww.toArray=(XW++Ww).toArray:=by simp
 refine z8 ⟨_,ho,rfl⟩ ⟨_,Uk,rfl⟩ noFill_list_add seq_list_add PySem.F.slot_list_add PySem.F.entry_list_add (PySem.F.args_list_add_2 _ _) (list_addW l b XW.toArray Ww.toArray n n2 dd HG sl HF (by rw[Yb,Yb];grind)) ⟨ho,Uk,?_⟩;rw[e];exact⟨.ref _,_,I.lnew (t':=s.toks) (r.append r2) (by rw[Xv];lia),rfl,q _ I.fresh⟩
end
end L2
namespace My
open PySem L2
def TC(n:Int)(ps:Aa)(c:Nat):Prop:=∃ L:Ab,L.Nodup/\(∀ l,l∈L↔Ze n ps l)/\L.length=c
theorem TC.uniq(h1:TC n ps c)(h2:TC n ps d):c=d:=by obtain⟨L,a1,a2,rfl⟩:=h1;obtain⟨M,b1,b2,rfl⟩:=h2;exact((Le a1 b1).mpr λl=>by rw[a2,b2]).length_eq
theorem PH:IsSet (m+1) (T++[(m:Int)])↔IsSet m T:=by
 constructor
 .intro h;have a:=XU.mp h
  have b:=Ld.mp a.2;refine XU.mpr ⟨λz hz=>?_,b.1⟩;have c:=a.1 z (Ye _ hz)
  have d:=b.2.2 z hz m (XC.mpr rfl);omega
 .exact λh=>h.snoc
theorem gd(h:IsSet (m+1) T):IsSet m T\/∃ T',T=T'++[(m:Int)]/\IsSet m T':=by
 have a:=XU.mp h;by_cases hm:(m:Int)∈T
 .obtain⟨p,r,e⟩:=List.append_of_mem hm;have b:=zh (e ▸ a.2)
  cases r with
  | nil=>exact .inr ⟨p,e,PH.mp (e ▸ h)⟩
  | cons y r =>
   have h1:=a.1 y (by rw[e];simp);have h2:=(YV.mp (Ld.mp (e ▸ a.2)).2.1).1 y Yc
   omega
 .refine .inl (XU.mpr ⟨λz hz=>?_,a.2⟩);have h1:=a.1 z hz
  have h2:z≠(m:Int):=λe=>hm (e ▸ hz);lia
theorem gc{es:List (Nat × Nat)}{a b i j:Nat}(c:Conn (es++[(a,b)]) i j):Conn (es++[(b,a)]) i j:=c.lift λe he=>by
 rcases Xr.mp he with q | q
 .exact .edge (Ye _ q)
 .rw[XC.mp q];exact .symm (.edge (by simp))
end My
namespace L2
open PySem PySem.Spec PyProof.Rows
def Hn(K:Ad)(a b:Addr):It :=
 ⟨λi H=>∃ xs ys x y,SqL K H a xs/\SqL K H b ys/\xs[i]?=some x/\ys[i]?=some y,λi H v H'=>∃ T x y,H T=none/\v=.ref T/\H'=upd H T (.tup [x,y])/\(∀ xs,SqL K H a xs->xs[i]?=some x)/\∀ ys,SqL K H b ys->ys[i]?=some y,
  λi H=>∃ xs ys,SqL K H a xs/\SqL K H b ys/\(xs.length<=i\/ys.length<=i)⟩
theorem ZH9{P:Program}{w:World}{K:Ad}{elts:List Expr}{x1:Nat}{pos:Pos}(a b z TI TO i1 i2:Addr)(D:ZipApart z TI TO i1 i2 a b) :
  Turn P w K (.Tuple elts x1 pos) (Hn K a b) [z,TI,TO,i1,i2] z (λi h=>IsZip h z TI TO .none/\IsPair h TI (.ref i1) (.ref i2)/\(∃ c d,IsPair h TO c d)/\h.IsListIter i1 a i/\h.IsListIter i2 b i) where
 mem:=by simp
 obj:=λi h st c hc=>by
  obtain⟨hz,PF,⟨u,v,Oq⟩,⟨o1,e1,_,d1⟩,⟨o2,e2,_,d2⟩⟩:=st;have Wz:c=z\/c=TI\/c=TO\/c=i1\/c=i2:=by simpa using hc
  rcases Wz with rfl | rfl | rfl | rfl | rfl
  .exact⟨_,hz,λv q=>by have q':Data.fields _=Data.cell v:=q;cases q'⟩
  .exact⟨_,PF,λv q=>by have q':Data.seq _ _=Data.cell v:=q;cases q'⟩
  .exact⟨_,Oq,λv q=>by have q':Data.seq _ _=Data.cell v:=q;cases q'⟩
  .exact⟨o1,e1,λv q=>by rw[d1]at q;cases q⟩
  .exact⟨o2,e2,λv q=>by rw[d2]at q;cases q⟩
 keep:=λi h h' st k=>by obtain⟨hz,PF,⟨u,v,Oq⟩,h1,h2⟩:=st;exact⟨k z (by simp) _ hz,k TI (by simp) _ PF,⟨u,v,k TO (by simp) _ Oq⟩,h1.at λo e=>k i1 (by simp) o e,h2.at λo e=>k i2 (by simp) o e⟩
 item:=by
  intro X hP hw hK hc i pins s σ H E I hf st hg;subst hP hw hK;obtain⟨xs,ys,x,y,hq,LJ,hx,hy⟩:=hg;obtain⟨hz,PF,⟨u0,v0,Oq⟩,h1,h2⟩:=st;obtain⟨XW,rv,p,_⟩:=I.list hq;obtain⟨u,hu,ru⟩:=rv.get hx;obtain⟨Ww,zg,p2,_⟩:=I.list LJ;obtain⟨v,hv,su⟩:=zg.get hy;have fz:=hf z (by simp)
  have RH:=hf TO (by simp);have RG:=hf i1 (by simp)
  have RF:=hf i2 (by simp);have LW:H s.heap.objs.size=none:=I.hok.fresh (XJ _)
  refine wpAny_pyNext_zip_item D hz PF Oq h1 h2 p.isList p2.isList (x:=u) (y:=v) (by simpa using hu) (by simpa using hv) λh' a1 a2 a3 a4 a5 hsz hk=>?_;have OD:∀ b ob,s.heap.get? b=some ob->b≠s.heap.objs.size:=λb ob z=>Yz (Yq z)
  have Qc:∀ b ob,H b=some ob->b≠s.heap.objs.size:=λb ob z=>Yz (I.hok.lt z);have OC:∀ c ob,H c=some ob->c≠z/\c≠TO/\c≠i1/\c≠i2:=λc ob q=>⟨λe=>(by rw[e,fz.1]at q;cases q),λe=>(by rw[e,RH.1]at q;cases q),λe=>(by rw[e,RG.1]at q;cases q),λe=>(by rw[e,RF.1]at q;cases q)⟩
  have LI:∀ c o,c∉[z,TO,i1,i2]->s.heap.get? c=some o->h'.get? c=some o:=λc o Wj q=>hk c o (λe=>Wj (by simp[e])) (λe=>Wj (by simp[e])) (λe=>Wj (by simp[e])) (λe=>Wj (by simp[e])) q;have I1:Inv X pins σ (upd H s.heap.objs.size (.tup [x,y])) { s with heap:=h' }:=by
   refine I.step (g':=s.gens) (d':=s.drawn) (t':=s.toks) (ch:=[z,TO,i1,i2]) (λc hb=>?_) (λc o _ _ Wj q _=>LI c o Wj q) (λc o _ _ Wj q _=>⟨o.slots,LI c o Wj q⟩)
    (λc o _ q n=>by rwa[Za (OD c o q)]) (λc o Wj q=>⟨o,LI c o Wj q⟩) (λc ys q=>by rwa[Za (Qc c _ q)]) (λc o v q=>by rwa[Za (Qc c _ q)])
    (λc ps q=>⟨#[],by rw[Za (Qc c _ q),q];simp⟩) (λm hm=>?_) (λc v' q=>?_) I.bare
   .have Wz:c=z\/c=TO\/c=i1\/c=i2:=by simpa using hb
    rcases Wz with rfl | rfl | rfl | rfl
    .exact⟨fz.2.2.2.1,fz.2.1,fz.2.2.2.2.1,fz.2.2.2.2.2⟩
    .exact⟨RH.2.2.2.1,RH.2.1,RH.2.2.2.2.1,RH.2.2.2.2.2⟩
    .exact⟨RG.2.2.2.1,RG.2.1,RG.2.2.2.2.1,RG.2.2.2.2.2⟩
    .exact⟨RF.2.2.2.1,RF.2.1,RF.2.2.2.2.1,RF.2.2.2.2.2⟩
   .obtain⟨o,es,ep,Vu,r⟩:=hm;exact⟨o,es,ep,hk _ o (XG fz.2.1) (XG RH.2.1) (XG RG.2.1) (XG RF.2.1) Vu,r⟩
   .by_cases hb:c=s.heap.objs.size
    .subst hb;rw[XS]at q;cases q;exact⟨by show 2<=sizeLine;decide,[u,v],.cons ru (.cons su .nil),⟨_,a5,rfl,_,rfl⟩⟩
    .rw[Za hb]at q;refine(I.hok c v' q).stay (λe w' Wz q'=>?_) (λe q=>by rwa[Za (Qc e _ q)]) λe ys q=>by rwa[Za (Qc e _ q)]
     rcases Wz with rfl | Wz
     .have:=OC e _ q
      exact hk e w' this.1 this.2.1 this.2.2.1 this.2.2.2 q'
     .have:=OC e _ Wz
      exact hk e w' this.1 this.2.1 this.2.2.1 this.2.2.2 q'
  refine⟨_,rfl,wpAny_letOwnedTupleGo_zip a1 λh2 hz2 Ts=>?_⟩;have fT:z≠s.heap.objs.size:=OD z _ hz
  have I2:Inv X pins σ (upd H s.heap.objs.size (.tup [x,y])) { s with heap:=h2 }:=Inv.turned (s:={ s with heap:=h' }) (h':=h2) (t':=s.toks) (it:=z) I1 (λb o hb q=>Ts.extBut b o hb q) (by rw[Za fT];exact fz.1) fz.2.1 fz.2.2.2.1 fz.2.2.2.2.1 fz.2.2.2.2.2;refine⟨.ref s.heap.objs.size,_,I2,rfl,⟨_,x,y,LW,rfl,rfl,λys JY=>by rw[I.list_inj JY hq];exact hx,λys JY=>by rwa[I.list_inj JY LJ]⟩,
   ⟨hz2,Ts.extBut _ _ D.TIz (LI _ _ (by have:=D.TIz;have:=D.TITO;have:=D.TIi1;have:=D.TIi2;simp;exact⟨D.TIz,D.TITO,D.TIi1,D.TIi2⟩) PF),⟨u,v,Ts.extBut _ _ D.TOz a2⟩,a3.at λo q=>Ts.extBut i1 o D.i1z q,a4.at λo q=>Ts.extBut i2 o D.i2z q⟩,λc hc=>?_⟩
  have Wz:c=z\/c=TI\/c=TO\/c=i1\/c=i2:=by simpa using hc
  have hn:=(hf c hc).1;rcases Wz with rfl | rfl | rfl | rfl | rfl
  .rw[Za fT];exact hn
  .rw[Za (OD _ _ PF)];exact hn
  .rw[Za (OD _ _ Oq)];exact hn
  .obtain⟨o,eo,_⟩:=h1;rwa[Za (OD _ o eo)]
  .obtain⟨o,eo,_⟩:=h2;rwa[Za (OD _ o eo)]
 done:=by
  intro X hP hw hK hc i pins s σ H E I hf st hg;subst hP hw hK;obtain⟨xs,ys,hq,LJ,sr⟩:=hg;obtain⟨hz,PF,⟨u0,v0,Oq⟩,h1,h2⟩:=st;obtain⟨XW,rv,p,_⟩:=I.list hq;obtain⟨Ww,zg,p2,_⟩:=I.list LJ;have l1:=rv.length
  have l2:=zg.length;have fz:=hf z (by simp)
  have RH:=hf TO (by simp);have RG:=hf i1 (by simp)
  have RF:=hf i2 (by simp);refine wpAny_pyNext_zip_end (I.ok.hd hc) D hz PF Oq h1 h2 p.isList p2.isList (by
   rcases sr with e | e
   .exact .inl (by simp;lia)
   .exact .inr (by simp;lia)) λh' hk=>⟨rfl,?_⟩
  have LI:∀ c o,c∉[z,TO,i1,i2]->s.heap.get? c=some o->h'.get? c=some o:=λc o Wj q=>hk c o (λe=>Wj (by simp[e])) (λe=>Wj (by simp[e])) (λe=>Wj (by simp[e])) (λe=>Wj (by simp[e])) q;have OC:∀ c ob,H c=some ob->c≠z/\c≠TO/\c≠i1/\c≠i2:=λc ob q=>⟨λe=>(by rw[e,fz.1]at q;cases q),λe=>(by rw[e,RH.1]at q;cases q),λe=>(by rw[e,RG.1]at q;cases q),λe=>(by rw[e,RF.1]at q;cases q)⟩
  refine I.step (g':=s.gens) (d':=s.drawn) (t':=s.toks) (ch:=[z,TO,i1,i2]) (λc hb=>?_) (λc o _ _ Wj q _=>LI c o Wj q) (λc o _ _ Wj q _=>⟨o.slots,LI c o Wj q⟩)
   (λc o _ q n=>n) (λc o Wj q=>⟨o,LI c o Wj q⟩) (λc ys q=>q) (λc o v q=>q)
   (λc ps q=>⟨#[],by rw[q];simp⟩) (λm hm=>?_) (λc v' q=>?_) I.bare
  .have Wz:c=z\/c=TO\/c=i1\/c=i2:=by simpa using hb
   rcases Wz with rfl | rfl | rfl | rfl
   .exact⟨fz.2.2.2.1,fz.2.1,fz.2.2.2.2.1,fz.2.2.2.2.2⟩
   .exact⟨RH.2.2.2.1,RH.2.1,RH.2.2.2.2.1,RH.2.2.2.2.2⟩
   .exact⟨RG.2.2.2.1,RG.2.1,RG.2.2.2.2.1,RG.2.2.2.2.2⟩
   .exact⟨RF.2.2.2.1,RF.2.1,RF.2.2.2.2.1,RF.2.2.2.2.2⟩
  .obtain⟨o,es,ep,Vu,r⟩:=hm;exact⟨o,es,ep,hk _ o (XG fz.2.1) (XG RH.2.1) (XG RG.2.1) (XG RF.2.1) Vu,r⟩
  .refine(I.hok c v' q).stay (λe w' Wz q'=>?_) (λe q=>q) λe ys q=>q;rcases Wz with rfl | Wz
   .have:=OC e _ q
    exact hk e w' this.1 this.2.1 this.2.2.1 this.2.2.2 q'
   .have:=OC e _ Wz
    exact hk e w' this.1 this.2.1 this.2.2.1 this.2.2.2 q'
 self:=λ_ _ _ _ _ st h=>wpAny_pyIter_zip st.1 h
def sq(K:Ad)(ta:TA):TI:=λσ H R=>ta σ H λvs H1=>∃ a b,vs=[.ref a,.ref b]/\(∃ xs ys,SqL K H1 a xs/\SqL K H1 b ys)/\R (Hn K a b) H1
section
variable{X:Cx}
theorem LH (K:Ad) {elts:List Expr} {x1:Nat} {SX:Pos} {e f:Expr} {ta:TA} {p pos:Pos} (hg:Gl X "zip") (hm:X.mg "zip"=none) (ha:PA X [e,f] ta) (hs:starEach [e,f] X.env=(false,eval e X.env) :: starEach [f] X.env:=by rfl) (UQ:(backTo pos (starEach [f] X.env)).any (·.1)=false:=by rfl) (hk:X.K=K:=by rfl) :
  PI X (.Tuple elts x1 SX) (.Call (.Name "zip" p) [e,f] [] pos) (sq K ta):=by
 subst hk;intro pins s σ H R I h;refine Call_ (QZ I hg hm Boot.«zip» (Uc (thn (ha pos pins s σ H _ I h) λus s1 Xt=>?_) hs UQ));obtain⟨vs,H1,I1,r1,q1⟩:=Xt;obtain⟨a,b,ev,⟨xs,ys,hq,LJ⟩,q⟩:=q1;subst ev;obtain⟨u,u',rfl,ru,ru'⟩:=Kl r1;obtain rfl:u=Value.ref a:=ru;obtain rfl:u'=Value.ref b:=ru';obtain⟨XW,rv,pl,_⟩:=I1.list hq;obtain⟨Ww,zg,gb,_⟩:=I1.list LJ;have lt1:a<s1.heap.objs.size:=let ⟨_,_,e,_⟩:=pl;Yq e
 have lt2:b<s1.heap.objs.size:=let ⟨_,_,e,_⟩:=gb;Yq e
 have D:ZipApart (s1.heap.objs.size+4) (s1.heap.objs.size+2) (s1.heap.objs.size+3) s1.heap.objs.size (s1.heap.objs.size+1) a b:=by
  have key:∀ n x y:Nat,x<n->y<n->ZipApart (n+4) (n+2) (n+3) n (n+1) x y:=λn x y h1 h2=>by constructor <;> (intro q;have q':(_:Nat)=_:=q;lia)
  exact key _ _ _ lt1 lt2
 refine call_zip_2 pl.isList gb.isList λh' hz PF Oq so VO hsz hk=>?_;refine wpAny_pyIter_zip (s:={ s1 with heap:=h' }) hz ?_;refine⟨s1.heap.objs.size+4,[s1.heap.objs.size+4,s1.heap.objs.size+2,s1.heap.objs.size+3,s1.heap.objs.size,s1.heap.objs.size+1],_,_,H1,rfl,I1.kept (t':=s1.toks) hk,ZH9 a b _ _ _ _ _ D,⟨hz,PF,⟨_,_,Oq⟩,so,VO⟩,λc hc=>?_,q⟩;have hle:s1.heap.objs.size<=c:=by
  have Wz:c=s1.heap.objs.size+4\/c=s1.heap.objs.size+2\/c=s1.heap.objs.size+3\/c=s1.heap.objs.size\/c=s1.heap.objs.size+1:=by simpa using hc
  rcases Wz with e | e | e | e | e <;> rw[e] <;> first | exact XJ _ | exact Nat.le_add_right _ _
 exact I1.fpOk hle (I1.hok.fresh hle)
end
end L2
namespace My
open PySem L2
section
variable{K:Ad}{a b:Addr}{xs ys:List V}{g:TG}{tt:TT}{te:TE}{o:Nat}{fr:List Nat}{σ:St}{H:Hp}{Q:VK}
theorem sj(Pv:Nat->List V->Hp->Prop)(h0:Pv 0 [] H)(LK:xs.length=ys.length)(hz:xs.length<sizeLine)(hl:∀ i zs H,i<=xs.length->Pv i zs H->SqL K H a xs/\SqL K H b ys/\zs.length<=i)
  (hs:∀(i:Nat) x y zs H (p:Addr),H p=none->xs[i]?=some x->ys[i]?=some y->Pv i zs H->JT Pv g tt te o fr σ i (.ref p) zs (upd H p (.tup [x,y]))) (hd:∀ zs H,Pv xs.length zs H->∀ p,H p=none->Q (.ref p) (upd H p (.lst zs))):Nz (Hn K a b) g tt te o fr σ H Q:=by
 refine⟨λi m zs H=>m=xs.length - i/\i<=xs.length/\Pv i zs H,⟨xs.length,by simp,Yk _,h0⟩,?_⟩;rintro i m zs H ⟨rfl,hi,p⟩;obtain⟨q,q2,hy⟩:=hl i zs H hi p;by_cases Xe:i<xs.length
 .refine .inr ⟨⟨xs,ys,xs[i],ys[i]'(by lia),q,q2,by simp[Xe],Xu (by omega)⟩,by lia,λx H' ⟨T,u,v,hT,ex,eH,hu,hv⟩=>?_⟩;subst ex eH;exact hs i u v zs H T hT (hu xs q) (hv ys q2) p (λj zs H=>∃ m',m'<xs.length - i/\m'=xs.length - j/\j<=xs.length/\Pv j zs H) λzs H p'=>⟨xs.length - (i+1),by grind,rfl,Xe,p'⟩
 .have e:i=xs.length:=by lia
  subst e;exact .inl ⟨⟨xs,ys,q,q2,.inl (XJ _)⟩,by lia,hd zs H p⟩
end
end My
namespace My
abbrev Mx:=Nat->Nat->Int
def sm:Nat->(Nat->Int)->Int
 | 0,_=>0
 | n+1,f=>sm n f+f n
theorem ZH{f g:Nat->Int}:∀ {n:Nat},(∀ i,i<n->f i=g i)->sm n f=sm n g
 | 0,_=>rfl
 | n+1,h=>by show sm n f+f n=sm n g+g n;rw[ZH λi hi=>h i (by lia),h n (by lia)]
theorem JD{f g:Nat->Int}:∀ {n:Nat},sm n (λi=>f i+g i)=sm n f+sm n g
 | 0=>rfl
 | n+1=>by show sm n (λi=>f i+g i)+(f n+g n)=sm n f+f n+(sm n g+g n);rw[JD];lia
theorem Hm{c:Int}{f:Nat->Int}:∀ {n:Nat},sm n (λi=>c * f i)=c * sm n f
 | 0=>(Sy c).symm
 | n+1=>by show sm n (λi=>c * f i)+c * f n=c * (sm n f+f n);rw[Hm,KQ]
theorem Uv:∀ {n:Nat},sm n (λ_=>0)=0
 | 0=>rfl
 | n+1=>by show sm n (λ_=>0)+0=0;rw[Uv];rfl
theorem JC{f:Nat->Int}(h:∀ i,i<n->f i=0):sm n f=0:=by rw[ZH h];exact Uv
theorem Eg{f:Nat->Int}:∀ {n:Nat},sm (n+1) f=f 0+sm n (λi=>f (i+1))
 | 0=>by show 0+f 0=f 0+0;lia
 | n+1=>by show sm (n+1) f+f (n+1)=f 0+(sm n (λi=>f (i+1))+f (n+1));rw[Eg];lia
theorem si{f:Nat->Nat->Int}:∀ {n:Nat},sm n (λi=>sm m (f i))=sm m (λj=>sm n (λi=>f i j))
 | 0=>Uv.symm
 | n+1=>by show sm n (λi=>sm m (f i))+sm m (f n)=sm m (λj=>sm n (λi=>f i j)+f n j);rw[si,JD]
def sk(j k:Nat):Nat:=if k<j then k else k+1
def mn(A:Mx)(j:Nat):Mx:=λi k=>A (i+1) (sk j k)
def sg(j:Nat):Int:=if j % 2=0 then 1 else -1
theorem zf(j:Nat):sg (j+1)=- sg j:=by
 unfold sg;by_cases h:j % 2=0
 .rw[if_pos h,if_neg (by omega)]
 .rw[if_neg h,if_pos (by lia)];rfl
def det:Nat->Mx->Int
 | 0,_=>1
 | n+1,A=>sm (n+1) λj=>sg j * A 0 j * det n (mn A j)
theorem PD{j k n:Nat}(h:k<n):sk j k<n+1:=by unfold sk;split <;> lia
theorem Zk:∀ {n:Nat} {A B:Mx},(∀ i j,i<n->j<n->A i j=B i j)->det n A=det n B
 | 0,_,_,_=>rfl
 | n+1,A,B,h=>ZH λj hj=>by rw[h 0 j (by lia) hj,Zk (A:=mn A j) (B:=mn B j) λi k hi hk=>h (i+1) (sk j k) (by lia) (PD hk)]
theorem JB:∀ {n:Nat} {A B C:Mx} {c:Int} {i:Nat},i<n->(∀ r j,r<n->j<n->r≠i->A r j=B r j/\A r j=C r j)->(∀ j,j<n->A i j=c * B i j+C i j)->det n A=c * det n B+det n C
 | 0,_,_,_,_,_,hi,_,_=>absurd hi (Wq _)
 | n+1,A,B,C,c,i,hi,h1,h2=>by
  show sm (n+1) (λj=>sg j * A 0 j * det n (mn A j))=c * sm (n+1) (λj=>sg j * B 0 j * det n (mn B j))+sm (n+1) (λj=>sg j * C 0 j * det n (mn C j));rw[<- Hm,<- JD];refine ZH λj hj=>?_;cases i with
  | zero =>
   have e1:det n (mn B j)=det n (mn A j):=Zk λr k hr hk=>(h1 (r+1) (sk j k) (by omega) (PD hk) (by lia)).1.symm;have e2:det n (mn C j)=det n (mn A j):=Zk λr k hr hk=>(h1 (r+1) (sk j k) (by lia) (PD hk) (by lia)).2.symm
   rw[e1,e2,h2 j hj];generalize det n (mn A j)=d;generalize sg j=s;rw[KQ,Ai,<- Sz s c,QD s c,Sz c s,Sz c]
  | succ i =>
   have e:=JB (n:=n) (A:=mn A j) (B:=mn B j) (C:=mn C j) (c:=c) (i:=i) (by lia) (λr k hr hk XH=>h1 (r+1) (sk j k) (by lia) (PD hk) (by lia)) (λk hk=>h2 (sk j k) (PD hk));have e0:=h1 0 j (by lia) hj (by lia)
   rw[e,<- e0.1,<- e0.2];generalize det n (mn B j)=d;generalize det n (mn C j)=d';generalize sg j * A 0 j=s;rw[KQ,<- Sz,<- Sz,QD s c]
theorem sf(h:j<=k):mn (mn A j) k i l=mn (mn A (k+1)) j i l:=by
 show A (i+1+1) (sk j (sk k l))=A (i+1+1) (sk (k+1) (sk j l));refine Xx _ ?_;unfold sk;by_cases h1:l<j
 .rw[if_pos (show l<k by lia),if_pos h1,if_pos (show l<k+1 by lia)]
 .rw[if_neg h1];by_cases h2:l<k
  .rw[if_pos h2,if_neg h1,if_pos (show l+1<k+1 by lia)]
  .rw[if_neg h2,if_neg (show ¬ l+1<j by lia),if_neg (show ¬ l+1<k+1 by lia)]
theorem sd:∀ {n:Nat} {A:Mx} {i:Nat},i+1<n->(∀ j,j<n->A i j=A (i+1) j)->det n A=0
 | 0,_,_,hi,_=>absurd hi (Wq _)
 | n+1,A,i+1,hi,h=>JC λj hj=>by rw[sd (A:=mn A j) (i:=i) (by lia) λk hk=>h (sk j k) (PD hk),Sy]
 | 1,_,0,hi,_=>absurd hi (by omega)
 | n+2,A,0,_,h=>by
  obtain⟨t,ht⟩:∃ t:Nat->Nat->Int,t=λj k=>sg j * A 0 j * (sg k * A 1 (sk j k) * det n (mn (mn A j) k)):=⟨_,rfl⟩;have e1:det (n+2) A=sm (n+2) λj=>sm (n+1) (t j):=ZH λj hj=>by rw[ht,Hm];rfl
  have e2:∀ j k,j<=k->k<n+1->t (k+1) j=- t j k:=λj k hjk hk=>by
   rw[ht];show sg (k+1) * A 0 (k+1) * (sg j * A 1 (sk (k+1) j) * det n (mn (mn A (k+1)) j))=- (sg j * A 0 j * (sg k * A 1 (sk j k) * det n (mn (mn A j) k)))
   have f1:sk (k+1) j=j:=by unfold sk;rw[if_pos (by lia)]
   have f2:sk j k=k+1:=by unfold sk;rw[if_neg (by lia)]
   have f3:det n (mn (mn A (k+1)) j)=det n (mn (mn A j) k):=Zk λi l _ _=>(sf hjk).symm;rw[f1,f2,f3,zf,<- h j (by lia),<- h (k+1) (by lia)];generalize det n (mn (mn A j) k)=d;generalize A 0 j=x;generalize A 0 (k+1)=y;generalize sg j=s;generalize sg k=u;simp only [Aj,Int.neg_inj];simp only [QD,NT,Sz]
  have e3:sm (n+2) (λj=>sm (n+1) (t j))=sm (n+2) (λj=>sm (n+1) λk=>if k<j then t j k else 0)+sm (n+2) (λj=>sm (n+1) λk=>if k<j then 0 else t j k):=by rw[<- JD];refine ZH λj _=>?_;rw[<- JD];refine ZH λk _=>?_;split <;> lia
  have e4:sm (n+2) (λj=>sm (n+1) λk=>if k<j then t j k else 0)=sm (n+1) (λk=>sm (n+1) λj=>if k<=j then t (j+1) k else 0):=by
   rw[si];refine ZH λk _=>?_;rw[Eg,if_neg (by lia),HW];refine ZH λj _=>?_;by_cases c:k<=j
   .rw[if_pos c,if_pos (by omega)]
   .rw[if_neg c,if_neg (by lia)]
  have e5:sm (n+2) (λj=>sm (n+1) λk=>if k<j then 0 else t j k)=sm (n+1) (λj=>sm (n+1) λk=>if j<=k then t j k else 0):=by
   show sm (n+1) (λj=>sm (n+1) λk=>if k<j then 0 else t j k)+sm (n+1) (λk=>if k<n+1 then 0 else t (n+1) k)=_;rw[JC (f:=λk=>if k<n+1 then 0 else t (n+1) k) λk hk=>if_pos hk,RX];refine ZH λj _=>ZH λk _=>?_;by_cases c:j<=k
   .rw[if_pos c,if_neg (by lia)]
   .rw[if_neg c,if_pos (by lia)]
  rw[e1,e3,e4,e5,<- JD];refine JC λj hj=>?_;rw[<- JD];refine JC λk hk=>?_;by_cases c:j<=k
  .rw[if_pos c,if_pos c,e2 j k c hk];lia
  .rw[if_neg c,if_neg c];rfl
def put2(A:Mx)(i:Nat)(x y:Nat->Int):Mx:=λr=>if r=i then x else if r=i+1 then y else A r
theorem r6{x x' y:Nat->Int}(hi:i+1<n):det n (put2 A i (λj=>x j+x' j) y)=det n (put2 A i x y)+det n (put2 A i x' y):=by
 have:=JB (n:=n) (A:=put2 A i (λj=>x j+x' j) y) (B:=put2 A i x y) (C:=put2 A i x' y) (c:=1) (i:=i) (by lia) (λr j _ _ XH=>by unfold put2;rw[if_neg XH,if_neg XH,if_neg XH];exact⟨rfl,rfl⟩) (λj _=>by unfold put2;rw[if_pos rfl,if_pos rfl,if_pos rfl,Tc])
 rw[this,Tc]
theorem f9{x y y':Nat->Int}(hi:i+1<n):det n (put2 A i x (λj=>y j+y' j))=det n (put2 A i x y)+det n (put2 A i x y'):=by
 have ne:¬ i+1=i:=by lia
 have:=JB (n:=n) (A:=put2 A i x (λj=>y j+y' j)) (B:=put2 A i x y) (C:=put2 A i x y') (c:=1) (i:=i+1) (by lia) (λr j _ _ XH=>by unfold put2;rw[if_neg XH,if_neg XH,if_neg XH];exact⟨rfl,rfl⟩) (λj _=>by unfold put2;rw[if_neg ne,if_neg ne,if_neg ne,if_pos rfl,if_pos rfl,if_pos rfl,Tc])
 rw[this,Tc]
theorem rZ{x:Nat->Int}(hi:i+1<n):det n (put2 A i x x)=0:=sd hi λj _=>by unfold put2;rw[if_pos rfl,if_neg (by lia),if_pos rfl]
theorem rY{x y:Nat->Int}(hi:i+1<n):det n (put2 A i y x)=- det n (put2 A i x y):=by have h:=rZ (A:=A) (x:=λj=>x j+y j) hi;rw[r6 hi,f9 hi,f9 hi,rZ hi,rZ hi]at h;lia
theorem Ef:put2 A i (A i) (A (i+1))=A:=by
 funext r
 unfold put2;by_cases h:r=i
 .rw[if_pos h,h]
 .rw[if_neg h];by_cases h2:r=i+1
  .rw[if_pos h2,h2]
  .rw[if_neg h2]
theorem f7(hi:i+1<n):det n (put2 A i (A (i+1)) (A i))=- det n A:=by
 have:=rY (A:=A) (x:=A i) (y:=A (i+1)) hi
 rwa[Ef]at this
theorem ze:∀ {d:Nat} {A:Mx},a+d+1<n->(∀ j,j<n->A a j=A (a+d+1) j)->det n A=0
 | 0,A,hn,h=>sd hn h
 | d+1,A,hn,h=>by
  have e:=f7 (n:=n) (A:=A) (i:=a+d+1) (by lia);have z:det n (put2 A (a+d+1) (A (a+d+1+1)) (A (a+d+1)))=0:=by refine ze (a:=a) (d:=d) (by lia) λj hj=>?_;unfold put2;rw[if_neg (by lia),if_neg (by lia),if_pos rfl];exact h j hj
  lia
def rotN(k t i:Nat):Nat:=if i<k then i else if i=k then k+t else if i<=k+t then i - 1 else i
theorem ZZ7(k i:Nat):rotN k 0 i=i:=by
 unfold rotN;by_cases h:i<k
 .rw[if_pos h]
 .rw[if_neg h];by_cases h2:i=k
  .rw[if_pos h2,h2];rfl
  .rw[if_neg h2,if_neg (by lia)]
theorem rX:∀ {t:Nat} {A:Mx},k+t<n->det n (λi=>A (rotN k t i))=sg t * det n A
 | 0,A,_=>by rw[show sg 0=1 from rfl,Tc];exact Zk λi j _ _=>by rw[ZZ7]
 | t+1,A,h=>by
  have e:=rX (n:=n) (k:=k) (t:=t) (A:=put2 A (k+t) (A (k+t+1)) (A (k+t))) (by lia);rw[f7 (by lia)]at e;have f:det n (λi=>A (rotN k (t+1) i))=det n (λi=>put2 A (k+t) (A (k+t+1)) (A (k+t)) (rotN k t i)):=Zk λi j _ _=>by
   refine congrFun ?_ j;have r1:rotN k (t+1) i=if i<k then i else if i=k then k+(t+1) else if i<=k+(t+1) then i - 1 else i:=rfl
   have r2:rotN k t i=if i<k then i else if i=k then k+t else if i<=k+t then i - 1 else i:=rfl
   unfold put2;by_cases h1:i<k
   .rw[if_pos h1]at r1 r2;rw[r1,r2,if_neg (by lia),if_neg (by lia)]
   .rw[if_neg h1]at r1 r2;by_cases h2:i=k
    .rw[if_pos h2]at r1 r2;rw[r1,r2,if_pos rfl];rfl
    .rw[if_neg h2]at r1 r2;by_cases h3:i<=k+t
     .rw[if_pos (by lia)]at r1;rw[if_pos h3]at r2;rw[r1,r2,if_neg (by lia),if_neg (by lia)]
     .rw[if_neg h3]at r2;by_cases h4:i=k+t+1
      .rw[if_pos (by lia)]at r1;rw[r1,r2,if_neg (by grind),if_pos h4];exact Xx A (by lia)
      .rw[if_neg (by lia)]at r1;rw[r1,r2,if_neg (by lia),if_neg h4]
  rw[f,e,zf,Int.mul_neg,Aj]
theorem rW:∀ {n:Nat} {A:Mx},(∀ i,i<n+1->A i 0=0)->det (n+1) A=0
 | 0,A,h=>by show 0+sg 0 * A 0 0 * 1=0;rw[h 0 (by omega),Sy];rfl
 | n+1,A,h=>JC λj hj=>by
  cases j with
  | zero=>rw[h 0 (by lia),Sy,Gx]
  | succ j =>
   rw[rW (A:=mn A (j+1)) λi hi=>?_,Sy];show A (i+1) (sk (j+1) 0)=0
   rw[show sk (j+1) 0=0 from rfl];exact h (i+1) (by lia)
theorem ZG8(h:∀ i,i<n->A (i+1) 0=0):det (n+1) A=A 0 0 * det n (λi j=>A (i+1) (j+1)):=by
 show sm (n+1) (λj=>sg j * A 0 j * det n (mn A j))=_;rw[Eg,JC λj hj=>?_]
 .rw[RX,show sg 0=1 from rfl,Tc];refine Xx (A 0 0 * ·) (Zk λi j _ _=>?_);rfl
 .cases n with
  | zero=>exact absurd hj (Wq _)
  | succ n =>
   rw[rW (A:=mn A (j+1)) λi hi=>?_,Sy];exact h i hi
theorem fZ{i:Nat}(hi:i<n)(h:∀ j,j<n->A i j=0):det n A=0:=by
 have:=JB (A:=A) (B:=A) (C:=A) (c:=1) hi (λr j _ _ _=>⟨rfl,rfl⟩) (λj hj=>by rw[h j hj];rfl)
 grind
theorem fY{c:Int}:∀ {n:Nat} {A:Mx},det n (λi j=>c * A i j)=c ^ n * det n A
 | 0,_=>by show(1:Int)=c ^ 0 * 1;rw[KS];rfl
 | n+1,A=>by
  show sm (n+1) (λj=>sg j * (c * A 0 j) * det n (mn (λi j=>c * A i j) j))=c ^ (n+1) * sm (n+1) (λj=>sg j * A 0 j * det n (mn A j));rw[<- Hm];refine ZH λj _=>?_;have e:det n (mn (λi j=>c * A i j) j)=c ^ n * det n (mn A j):=fY (A:=mn A j)
  rw[e,Gw];generalize det n (mn A j)=d;generalize c ^ n=p;generalize sg j=s;generalize A 0 j=x;simp only [QD,NT,Sz]
def offN(R:Mx):Mx:=λi j=>R 0 0 * R (i+1) (j+1) - R (i+1) 0 * R 0 (j+1)
def WQ(R:Mx)(k:Nat):Mx:=λr j=>if r=0 then R 0 j else if r<=k then R 0 0 * R r j - R r 0 * R 0 j else R r j
theorem fX{m:Nat}:∀ {k:Nat},k<m+1->det (m+1) (WQ R k)=R 0 0 ^ k * det (m+1) R
 | 0,_=>by
  rw[KS,Tc];refine Zk λi j _ _=>?_;unfold WQ;by_cases h:i=0
  .rw[if_pos h,h]
  .rw[if_neg h,if_neg (by lia)]
 | k+1,hk=>by
  have ih:=fX (m:=m) (R:=R) (k:=k) (by lia);obtain⟨C,hC⟩:∃ C:Mx,C=λr j=>if r=k+1 then - R (k+1) 0 * R 0 j else WQ R k r j:=⟨_,rfl⟩
  obtain⟨B,hB⟩:∃ B:Mx,B=λr j=>if r=k+1 then R 0 j else WQ R k r j:=⟨_,rfl⟩
  obtain⟨Z,hZ⟩:∃ Z:Mx,Z=λr j=>if r=k+1 then 0 else WQ R k r j:=⟨_,rfl⟩
  have hBz:det (m+1) B=0:=ze (n:=m+1) (a:=0) (d:=k) (by lia) λj hj=>by
   rw[hB];show(if 0=k+1 then _ else WQ R k 0 j)=if 0+k+1=k+1 then _ else _
   rw[if_neg (by lia),if_pos (by lia)];rfl
  have hZz:det (m+1) Z=0:=fZ (i:=k+1) hk λj hj=>by rw[hZ];exact if_pos rfl
  have hCz:det (m+1) C=0:=by
   have:=JB (A:=C) (B:=B) (C:=Z) (c:=- R (k+1) 0) hk (λr j _ _ XH=>by
    rw[hC,hB,hZ];show(if r=k+1 then _ else WQ R k r j)=(if r=k+1 then _ else WQ R k r j)/\(if r=k+1 then _ else WQ R k r j)=(if r=k+1 then _ else WQ R k r j)
    rw[if_neg XH,if_neg XH,if_neg XH];exact⟨rfl,rfl⟩) (λj _=>by
    rw[hC,hB,hZ];show(if k+1=k+1 then _ else _)=_ * (if k+1=k+1 then _ else _)+(if k+1=k+1 then _ else _)
    rw[if_pos rfl,if_pos rfl,if_pos rfl,RX])
   rw[this,hBz,hZz,Sy];rfl
  have:=JB (A:=WQ R (k+1)) (B:=WQ R k) (C:=C) (c:=R 0 0) hk (λr j _ _ XH=>by
   have e1:WQ R (k+1) r j=WQ R k r j:=by
    unfold WQ;by_cases h0:r=0
    .rw[if_pos h0,if_pos h0]
    .rw[if_neg h0,if_neg h0];by_cases h1:r<=k
     .rw[if_pos h1,if_pos (by lia)]
     .rw[if_neg h1,if_neg (by lia)]
   refine⟨e1,?_⟩;rw[hC,e1];show _=if r=k+1 then _ else _
   rw[if_neg XH]) (λj _=>by
   have e1:WQ R (k+1) (k+1) j=R 0 0 * R (k+1) j - R (k+1) 0 * R 0 j:=by unfold WQ;rw[if_neg (by lia),if_pos (by lia)]
   have e2:WQ R k (k+1) j=R (k+1) j:=by unfold WQ;rw[if_neg (by omega),if_neg (by lia)]
   rw[e1,e2,hC];show _=_+(if k+1=k+1 then - R (k+1) 0 * R 0 j else _)
   rw[if_pos rfl,Aj]
   rfl)
  rw[this,hCz,ih,RX,Gw];rw[<- Sz,QD (R 0 0)]
theorem rV:R 0 0 * det m (offN R)=R 0 0 ^ m * det (m+1) R:=by
 rw[<- fX (k:=m) (by lia),ZG8 λi hi=>?_]
 .have e0:WQ R m 0 0=R 0 0:=if_pos rfl;rw[e0];refine Xx (R 0 0 * ·) (Zk λi j hi hj=>?_);unfold WQ offN;rw[if_neg (by lia),if_pos (by lia)]
 .unfold WQ;rw[if_neg (by lia),if_pos (by lia),QD];lia
def ex(k:Nat)(r:Nat->Nat)(i:Nat):Nat:=if i<k then i else k+r (i - k)
def Sn(A:Mx)(k M:Nat)(R:Mx)(last:Int):Prop:=last≠0/\∀(m:Nat) (r c:Nat->Nat),(∀ i,i<m+1->r i<M/\c i<M) ->
 det (m+1) (λi j=>R (r i) (c j))=det (k+m+1) (λi j=>A (ex k r i) (ex k c j)) * last ^ m
theorem ZM8(A:Mx)(n:Nat):Sn A 0 n A 1:=⟨by decide,λm r c _=>by rw[Int.one_pow,Mj,NZ];refine Zk λi j _ _=>?_;unfold ex;rw[if_neg (Wq _),if_neg (Wq _),NZ,NZ,Al,Al]⟩
theorem PB{p:Int}(h:p≠0):∀ n:Nat,p ^ n≠0
 | 0=>by rw[KS];decide
 | n+1=>by rw[Gw];exact Int.mul_ne_zero (PB h n) h
def Pz(r:Nat->Nat):Nat->Nat
 | 0=>0
 | i+1=>r i+1
theorem Ee(k:Nat)(r:Nat->Nat)(i:Nat):ex k (Pz r) i=ex (k+1) r i:=by
 unfold ex;by_cases h:i<k
 .rw[if_pos h,if_pos (by lia)]
 .rw[if_neg h];by_cases h2:i=k
  .rw[if_pos (by lia),h2,QE];rfl
  .rw[if_neg (by lia)];obtain⟨d,rfl⟩:∃ d,i=k+d+1:=⟨i - k - 1,by grind⟩;rw[show k+d+1 - k=d+1 by lia,show k+d+1 - (k+1)=d by lia];show k+(r d+1)=k+1+r d
   lia
theorem fW{k M:Nat}(h:Sn A k (M+1) R last)(hp:R 0 0≠0){m:Nat}{r c:Nat->Nat}(hb:∀ i,i<m+1->r i<M/\c i<M) :
  det (m+1) (λi j=>offN R (r i) (c j))=R 0 0 ^ m * (last ^ (m+1) * det (k+1+m+1) (λi j=>A (ex (k+1) r i) (ex (k+1) c j))):=by
 have e1:=rV (m:=m+1) (R:=λi j=>R (Pz r i) (Pz c j));have e2:=h.2 (m+1) (Pz r) (Pz c) λi hi=>by
  cases i with
  | zero=>exact⟨Nat.succ_pos _,Nat.succ_pos _⟩
  | succ i=>have:=hb i (by lia);exact⟨Nat.succ_lt_succ this.1,Nat.succ_lt_succ this.2⟩
 have e3:det (m+1) (offN λi j=>R (Pz r i) (Pz c j))=det (m+1) (λi j=>offN R (r i) (c j)):=rfl;have e4:det (k+(m+1)+1) (λi j=>A (ex k (Pz r) i) (ex k (Pz c) j))=det (k+1+m+1) (λi j=>A (ex (k+1) r i) (ex (k+1) c j)):=by rw[show k+(m+1)+1=k+1+m+1 by lia];exact Zk λi j _ _=>by rw[Ee,Ee]
 rw[e3]at e1;rw[e4]at e2;have e5:R (Pz r 0) (Pz c 0)=R 0 0:=rfl
 rw[e5,e2]at e1;generalize det (m+1) (λi j=>offN R (r i) (c j))=x at *;generalize det (k+1+m+1) (λi j=>A (ex (k+1) r i) (ex (k+1) c j))=y at *;rw[Gw]at e1;refine jh hp ?_;rw[e1,QD y,QD (R 0 0 ^ m),Sz]
theorem rT(A:Mx):det 1 A=A 0 0:=by show 0+sg 0 * A 0 0 * 1=A 0 0;rw[show sg 0=1 from rfl];lia
theorem Ec{k M:Nat}(h:Sn A k (M+1) R last)(hp:R 0 0≠0)(hi:i<M)(hj:j<M) :
  offN R i j=last * det (k+2) (λa b=>A (ex (k+1) (λ_=>i) a) (ex (k+1) (λ_=>j) b)):=by
 have:=fW h hp (m:=0) (r:=λ_=>i) (c:=λ_=>j) λ_ _=>⟨hi,hj⟩
 rwa[rT,KS,Tc,Gw,KS,Tc]at this
theorem rS(h:Sn A k (M+1) R last)(hp:R 0 0≠0)(hR:∀ i j,i<M->j<M->R' i j=(offN R i j).fdiv last):Sn A (k+1) M R' (R 0 0):=by
 refine⟨hp,λm r c hb=>?_⟩;have rR:∀ i j,i<M->j<M->offN R i j=last * R' i j:=λi j hi hj=>by rw[hR i j hi hj,Ec h hp hi hj,Int.mul_fdiv_cancel_left _ h.1]
 have e1:=fW h hp hb;have e2:det (m+1) (λi j=>offN R (r i) (c j))=last ^ (m+1) * det (m+1) (λi j=>R' (r i) (c j)):=by rw[<- fY];exact Zk λi j hi hj=>rR _ _ (hb i hi).1 (hb j hj).2
 rw[e2]at e1;refine jh (PB h.1 (m+1)) ?_;rw[e1];generalize det (k+1+m+1) (λi j=>A (ex (k+1) r i) (ex (k+1) c j))=y;rw[NT,QD y]
theorem Eb(h:Sn A k M R last)(ht:t<M):Sn (λi=>A (rotN k t i)) k M (λi=>R (rotN 0 t i)) last:=by
 refine⟨h.1,λm r c hb=>?_⟩;have e:=h.2 m (λi=>rotN 0 t (r i)) c λi hi=>⟨by
  have:=(hb i hi).1
  unfold rotN;rw[if_neg (by lia)];split
  .lia
  .split <;> lia,(hb i hi).2⟩
 rw[e];refine Xx (· * last ^ m) (Zk λi j _ _=>?_);refine Xx (λa=>A a (ex k c j)) ?_;unfold ex;by_cases hi:i<k
 .rw[if_pos hi,if_pos hi];unfold rotN;rw[if_pos hi]
 .rw[if_neg hi,if_neg hi];show k+rotN 0 t (r (i - k))=rotN k t (k+r (i - k))
  generalize r (i - k)=a;have r1:rotN 0 t a=if a<0 then a else if a=0 then 0+t else if a<=0+t then a - 1 else a:=rfl
  have r2:rotN k t (k+a)=if k+a<k then k+a else if k+a=k then k+t else if k+a<=k+t then k+a - 1 else k+a:=rfl
  rw[if_neg (by lia)]at r1 r2;by_cases h1:a=0
  .rw[if_pos h1]at r1;rw[if_pos (by lia)]at r2;rw[r1,r2];lia
  .rw[if_neg h1]at r1;rw[if_neg (by lia)]at r2;by_cases h2:a<=t
   .rw[if_pos (by lia)]at r1;rw[if_pos (by lia)]at r2;rw[r1,r2];lia
   .rw[if_neg (by lia)]at r1;rw[if_neg (by lia)]at r2;rw[r1,r2]
theorem Ni(k i:Nat):ex k (λi=>i) i=i:=by
 unfold ex;by_cases h:i<k
 .rw[if_pos h]
 .rw[if_neg h];show k+(i - k)=i
  grind
theorem rQ{k M:Nat}(h:Sn A k (M+1) R last)(h0:∀ i,i<M+1->R i 0=0):det (k+M+1) A=0:=by
 have e:=h.2 M (λi=>i) (λi=>i) λi hi=>⟨hi,hi⟩;rw[rW (A:=λi j=>R i j) h0]at e;have e2:det (k+M+1) (λi j=>A (ex k (λi=>i) i) (ex k (λi=>i) j))=det (k+M+1) A:=Zk λi j _ _=>by rw[Ni,Ni]
 rw[e2]at e;rcases Int.mul_eq_zero.mp e.symm with z | z
 .exact z
 .exact absurd z (PB h.1 M)
theorem Ea(h:Sn A k 1 R last):R 0 0=det (k+1) A:=by
 have e:=h.2 0 (λi=>i) (λi=>i) λi hi=>⟨by lia,by omega⟩;rw[rT,KS,Mj]at e;have e2:det (k+0+1) (λi j=>A (ex k (λi=>i) i) (ex k (λi=>i) j))=det (k+1) A:=Zk λi j _ _=>by rw[Ni,Ni]
 rwa[e2]at e
end My
namespace L2
open PySem PySem.Spec PyProof.Rows
def rP(i j:Int):Prop:=i.natAbs<2 ^ 9000/\j.natAbs<2 ^ 9000
def rO(i j:Int):Prop:=j≠0/\j.natAbs<2 ^ 9000
theorem fV(h:a.natAbs<2 ^ 9000):Builtin.Int.intBits a<=9000:=PySem.intBits_le_iff.mpr h
section
variable{X:Cx}
theorem rN:WK X (binaryOp .Mult) (rI rP λi j=>.int (i * j)):=HH λ_ _ _ _ _ _ _ hc q=>mul_int q (.of_bits (Yv (fV hc.1) (by decide)) (Yv (fV hc.2) (by decide)))
theorem rM:WK X (binaryOp .FloorDiv) (rI rO λi j=>.int (i.fdiv j)):=HH λ_ _ _ _ _ _ _ hc q=>floordiv_int hc.1 q (.inl (PyProof.noPylong_of_log2 ((Nat.log2_lt (by have:=hc.1;lia)).mpr hc.2)))
end
end L2
namespace My
def fnL(L:Ab):Mx:=λi j=>(L.getD i []).getD j 0
theorem Oo{l:Ac}{x:Int}(h:L[i]?=some l)(h2:l[j]?=some x):fnL L i j=x:=by
 have e:L.getD i []=l:=by rw[WO,h];rfl
 unfold fnL;rw[e,WO,h2];rfl
def bnd(B:Nat):Nat->Nat
 | 0=>1
 | n+1=>(n+1) * (B * bnd B n)
theorem DZ{f:Nat->Int}{C:Nat}:∀ {n:Nat},(∀ i,i<n->(f i).natAbs<=C)->(sm n f).natAbs<=n * C
 | 0,_=>by show(0:Int).natAbs<=0 * C;rw[Nat.zero_mul];exact XJ 0
 | n+1,h=>by
  have h1:=DZ (n:=n) λi hi=>h i (by lia);have h2:=h n (by lia)
  have h3:(sm n f+f n).natAbs<=(sm n f).natAbs+(f n).natAbs:=Int.natAbs_add_le ..;show(sm n f+f n).natAbs<=(n+1) * C
  rw[Nat.succ_mul];lia
theorem fU:∀ {n:Nat} {A:Mx},(∀ i j,i<n->j<n->(A i j).natAbs<=B)->(det n A).natAbs<=bnd B n
 | 0,_,_=>XJ 1
 | n+1,A,h=>by
  refine DZ λj hj=>?_;have e:(sg j).natAbs=1:=by unfold sg;split <;> rfl
  rw[xi,xi,e,Nat.one_mul];exact KW (h 0 j (by lia) hj) (fU λi k hi hk=>h (i+1) (sk j k) (by lia) (PD hk))
theorem LG{b:Nat}:∀ {n:Nat},n<=16->bnd (2 ^ b) n<=2 ^ ((b+4) * n)
 | 0,_=>by show 1<=2 ^ ((b+4) * 0);rw[Nat.mul_zero];exact XJ 1
 | n+1,h=>by
  have ih:=LG (b:=b) (n:=n) (by lia);have e:2 ^ ((b+4) * (n+1))=16 * (2 ^ b * 2 ^ ((b+4) * n)):=by rw[Nat.mul_succ,Nat.pow_add,Nat.pow_add,Ak (2 ^ ((b+4) * n)),Ak (2 ^ b) (2 ^ 4),Nat.mul_assoc]
  rw[e];show(n+1) * (2 ^ b * bnd (2 ^ b) n)<=_
  exact KW h (KW (XJ _) ih)
theorem ZF8(hn:n<=16)(h:∀ i j,i<n->j<n->(A i j).natAbs<=2 ^ 400):(det n A).natAbs<2 ^ 9000:=by
 have h1:=fU h;have h2:=LG (b:=400) hn
 have h3:2 ^ ((400+4) * n)<=2 ^ (404 * 16):=xK (by decide) (KW (XJ _) hn);have h4:2 ^ (404 * 16)<2 ^ 9000:=Nat.pow_lt_pow_right (by decide) (by decide)
 exact AB (Yv h1 (Yv h2 h3)) h4
theorem DY(h:Sn A k M R last){i j:Nat}(hi:i<M)(hj:j<M):R i j=det (k+1) (λa b=>A (ex k (λ_=>i) a) (ex k (λ_=>j) b)):=by
 have:=h.2 0 (λ_=>i) (λ_=>j) λ_ _=>⟨hi,hj⟩
 rwa[rT,KS,Mj]at this
theorem ZN8{k M n:Nat}(h:Sn A k M R last)(hn:k+M=n)(hn16:n<=16)(hA:∀ i j,i<n->j<n->(A i j).natAbs<=2 ^ 400){i j:Nat}(hi:i<M)(hj:j<M):(R i j).natAbs<2 ^ 9000:=by
 rw[DY h hi hj];refine ZF8 (by lia) λa b ha hb=>hA _ _ ?_ ?_
 .have e:ex k (λ_=>i) a=if a<k then a else k+i:=rfl
  rw[e];split <;> lia
 .have e:ex k (λ_=>j) b=if b<k then b else k+j:=rfl
  rw[e];split <;> lia
theorem rL{L:Ab}{l:Ac}(h:L[t]?=some l)(i:Nat):(l :: L.eraseIdx t)[i]?=L[rotN 0 t i]?:=by
 have ht:=(Xm.mp h).1;have r:rotN 0 t i=if i<0 then i else if i=0 then 0+t else if i<=0+t then i - 1 else i:=rfl
 rw[if_neg (by lia)]at r;cases i with
 | zero =>
  rw[if_pos rfl,NZ]at r;rw[r,h];rfl
 | succ i =>
  rw[if_neg (by lia),NZ]at r;rw[r,List.getElem?_cons_succ,xO];by_cases c:i+1<=t
  .rw[if_pos c,if_pos (by lia)];rfl
  .rw[if_neg c,if_neg (by lia)]
theorem rK{l:Ac}(h:L[t]?=some l):fnL (l :: L.eraseIdx t)=λi=>fnL L (rotN 0 t i):=by
 funext i j
 show((l :: L.eraseIdx t).getD i []).getD j 0=(L.getD (rotN 0 t i) []).getD j 0;refine Xx (λr:Ac=>r.getD j 0) ?_;rw[WO,WO,rL h]
def Py(y:Int)(p:Ac)(last:Int)(l:Ac):Ac:=List.zipWith (λown other=>(y * own - l.headD 0 * other).fdiv last) l.tail p
theorem fS(h:l.length=p.length+1):(Py y p last l).length=p.length:=by unfold Py;rw[Od,Ax];grind
theorem rJ{L:Ab}{M:Nat}(hp:p.length=M)(hL:L.length=M)(hl:∀ l∈L,l.length=M+1){i j:Nat}(hi:i<M)(hj:j<M) :
  fnL (L.map (Py y p last)) i j=(offN (fnL ((y :: p) :: L)) i j).fdiv last:=by
 obtain⟨l,LF⟩:∃ l,L[i]?=some l:=⟨_,Xu (by lia)⟩;have Vd:=hl l (Xi LF)
 obtain⟨x,l',rfl⟩:∃ x l',l=x :: l':=by
  cases l with
  | nil=>cases Vd
  | cons x l'=>exact⟨x,l',rfl⟩
 have Qu:l'.length=M:=by rw[Yt]at Vd;lia
 obtain⟨u,hu⟩:∃ u,l'[j]?=some u:=⟨_,Xu (by lia)⟩;obtain⟨v,hv⟩:∃ v,p[j]?=some v:=⟨_,Xu (by lia)⟩;have e1:fnL (L.map (Py y p last)) i j=(y * u - x * v).fdiv last:=Oo (l:=Py y p last (x :: l')) (by rw[Yn,LF];rfl) (by
  show(List.zipWith _ l' p)[j]?=_;rw[Mv,hu,hv]
  rfl)
 have e2:fnL ((y :: p) :: L) 0 0=y:=rfl;have e3:fnL ((y :: p) :: L) (i+1) (j+1)=u:=Oo (l:=x :: l') LF hu
 have e4:fnL ((y :: p) :: L) (i+1) 0=x:=Oo (l:=x :: l') LF rfl;have e5:fnL ((y :: p) :: L) 0 (j+1)=v:=Oo (l:=y :: p) rfl hv
 rw[e1];unfold offN;rw[e2,e3,e4,e5]
end My
namespace My
open PySem L2
def DX(K:Ad)(H:Hp)(v:V)(l:Ac):Prop:=∃(r:Addr) (k:Bool),v=.ref r/\SqK k K H r (IL l)
def LiV(d:Addr)(H:Hp)(v:V)(l:Ac):Prop:=∃ r,v=.ref r/\H r=some (.lst (IL l))/\r≠d
theorem LiV.same(s:Same H H')(h:LiV d H v l):LiV d H' v l:=by obtain⟨r,e,h,n⟩:=h;exact⟨r,e,s _ _ h,n⟩
theorem LiV.mut(h:LiV d H v l):LiV d (upd H d o) v l:=by obtain⟨r,e,h,n⟩:=h;exact⟨r,e,by rw[Za n];exact h,n⟩
theorem LiV.list(h:LiV d H v l):VR H v l:=by obtain⟨r,e,h,_⟩:=h;exact⟨r,e,h⟩
theorem Bears.erase{α:Type}[DecidableEq α]{R:V->α->Prop}{xs:List V}{l:List α}(h:Bears R xs l)(t:Nat):Bears R (xs.eraseIdx t) (l.eraseIdx t):=by
 have hl:=h.1;refine⟨by rw[xH,xH,hl],λi a e=>?_⟩;rw[xO]at e;rw[xO];split at e
 .next c=>rw[if_pos c];exact h.2 _ _ e
 .next c=>rw[if_neg c];exact h.2 _ _ e
theorem fR(x:Int)(l:Ac):Xh (IL (x :: l)) (some 1) none=IL l:=by rw[zk (by decide)];rfl
theorem rH(t:Nat):sg t * sg t=1:=by unfold sg;split <;> rfl
end My
namespace My
theorem ZS9{f:Nat->Nat->Int}:sm n (λi=>sm m (λj=>f i j))=sm m (λj=>sm n (λi=>f i j)):=si
theorem fQ:∀ {n:Nat} {A:Mx},det (n+1) A=sm (n+1) λi=>sg i * A i 0 * det n (λr c=>A (sk i r) (c+1))
 | 0,A=>rfl
 | n+1,A=>by
  have e1:det (n+2) A=sg 0 * A 0 0 * det (n+1) (mn A 0)+sm (n+1) λj=>sg (j+1) * A 0 (j+1) * det (n+1) (mn A (j+1)):=Eg;have e2:sm (n+2) (λi=>sg i * A i 0 * det (n+1) (λr c=>A (sk i r) (c+1)))=sg 0 * A 0 0 * det (n+1) (λr c=>A (sk 0 r) (c+1))+sm (n+1) λi=>sg (i+1) * A (i+1) 0 * det (n+1) (λr c=>A (sk (i+1) r) (c+1)):=Eg
  rw[e1,e2];have e3:det (n+1) (mn A 0)=det (n+1) (λr c=>A (sk 0 r) (c+1)):=Zk λr c _ _=>rfl
  rw[e3];refine Xx (λz:Int=>sg 0 * A 0 0 * det (n+1) (λr c=>A (sk 0 r) (c+1))+z) ?_;obtain⟨D,hD⟩:∃ D:Nat->Nat->Int,D=λi j=>det n (λr c=>A (sk i r+1) (sk (j+1) (c+1))):=⟨_,rfl⟩;have e4:∀ j,j<n+1->det (n+1) (mn A (j+1))=sm (n+1) λi=>sg i * A (i+1) 0 * D i j:=λj _=>by rw[fQ,hD];rfl
  have e5:∀ i,i<n+1->det (n+1) (λr c=>A (sk (i+1) r) (c+1))=sm (n+1) λj=>sg j * A 0 (j+1) * D i j:=λi hi=>by
   show sm (n+1) (λj=>sg j * A (sk (i+1) 0) (j+1) * det n (mn (λr c=>A (sk (i+1) r) (c+1)) j))=_;refine ZH λj _=>?_;rw[hD];show sg j * A (sk (i+1) 0) (j+1) * det n (mn (λr c=>A (sk (i+1) r) (c+1)) j)=sg j * A 0 (j+1) * det n (λr c=>A (sk i r+1) (sk (j+1) (c+1)))
   rw[show sk (i+1) 0=0 from rfl];refine Xx (sg j * A 0 (j+1) * ·) (Zk λr c _ _=>?_);show A (sk (i+1) (r+1)) (sk j c+1)=A (sk i r+1) (sk (j+1) (c+1))
   have f1:sk (i+1) (r+1)=sk i r+1:=by
    unfold sk;by_cases h:r<i
    .rw[if_pos h,if_pos (by lia)]
    .rw[if_neg h,if_neg (by lia)]
   have f2:sk j c+1=sk (j+1) (c+1):=by
    unfold sk;by_cases h:c<j
    .rw[if_pos h,if_pos (by lia)]
    .rw[if_neg h,if_neg (by lia)]
   rw[f1,f2]
  have e6:sm (n+1) (λj=>sg (j+1) * A 0 (j+1) * det (n+1) (mn A (j+1)))=sm (n+1) λj=>sm (n+1) λi=>sg (j+1) * A 0 (j+1) * (sg i * A (i+1) 0 * D i j):=ZH λj hj=>by rw[e4 j hj,Hm]
  have e7:sm (n+1) (λi=>sg (i+1) * A (i+1) 0 * det (n+1) (λr c=>A (sk (i+1) r) (c+1)))=sm (n+1) λi=>sm (n+1) λj=>sg (i+1) * A (i+1) 0 * (sg j * A 0 (j+1) * D i j):=ZH λi hi=>by rw[e5 i hi,Hm]
  rw[e6,e7,ZS9];refine ZH λi _=>ZH λj _=>?_;rw[zf,zf];generalize D i j=d;generalize A 0 (j+1)=x;generalize A (i+1) 0=y;generalize sg i=s;generalize sg j=u;simp only [Aj,Int.neg_inj];simp only [QD,NT,Sz]
theorem Px:∀ {n:Nat} {A:Mx},det n (λi j=>A j i)=det n A
 | 0,_=>rfl
 | n+1,A=>by
  rw[fQ (A:=A)];refine ZH λj _=>?_;show sg j * A j 0 * det n (λi k=>A (sk j k) (i+1))=sg j * A j 0 * det n (λr c=>A (sk j r) (c+1))
  rw[<- Px (A:=λr c=>A (sk j r) (c+1))]
theorem rG{n a b:Nat}(ha:a<n)(hb:b<n)(XH:a≠b)(h:∀ j,j<n->A a j=A b j):det n A=0:=by
 rcases Nat.lt_or_gt_of_ne XH with c | c
 .obtain⟨d,rfl⟩:∃ d,b=a+d+1:=⟨b - a - 1,by grind⟩;exact ze hb h
 .obtain⟨d,rfl⟩:∃ d,a=b+d+1:=⟨a - b - 1,by grind⟩;exact ze ha λj hj=>(h j hj).symm
def putr(A:Mx)(i:Nat)(x:Nat->Int):Mx:=λr=>if r=i then x else A r
theorem fP{c:Int}{x y:Nat->Int}(hi:i<n):det n (putr A i (λj=>c * x j+y j))=c * det n (putr A i x)+det n (putr A i y) :=
 JB hi (λr j _ _ XH=>by unfold putr;rw[if_neg XH,if_neg XH,if_neg XH];exact⟨rfl,rfl⟩) (λj _=>by unfold putr;rw[if_pos rfl,if_pos rfl,if_pos rfl])
theorem fO:putr A i (A i)=A:=by
 funext r
 unfold putr;by_cases h:r=i
 .rw[if_pos h,h]
 .rw[if_neg h]
theorem fN{n a b:Nat}{c:Int}(ha:a<n)(hb:b<n)(XH:a≠b):det n (putr A a (λj=>A a j+c * A b j))=det n A:=by
 have e:(λj=>A a j+c * A b j)=λj=>c * A b j+A a j:=by funext j;lia
 rw[e,fP ha,fO,rG ha hb XH (A:=putr A a (A b)) λj _=>?_,Sy,HW];unfold putr;rw[if_pos rfl,if_neg (XG XH)]
theorem rF(a i:Nat):rotN 0 a (i+1)=sk a i:=by
 have r:rotN 0 a (i+1)=if i+1<0 then i+1 else if i+1=0 then 0+a else if i+1<=0+a then i+1 - 1 else i+1:=rfl
 rw[if_neg (by lia),if_neg (by lia)]at r;rw[r];unfold sk;by_cases h:i<a
 .rw[if_pos h,if_pos (by lia)];lia
 .rw[if_neg h,if_neg (by lia)]
theorem fM{f:Nat->Int}{a:Nat}:∀ {n:Nat},a<n->(∀ j,j<n->j≠a->f j=0)->sm n f=f a
 | 0,h,_=>absurd h (Wq _)
 | n+1,h,h0=>by
  show sm n f+f n=f a;by_cases c:a=n
  .rw[JC λi hi=>h0 i (by grind) (by lia),c,HW]
  .rw[fM (n:=n) (by lia) λj hj XH=>h0 j (by lia) XH,h0 n (by lia) (by lia),RX]
theorem rE(ha:a<n+1):det (n+1) (putr A a (λj=>if j=a then 1 else 0))=det n (λi j=>A (sk a i) (sk a j)):=by
 have e:=rX (n:=n+1) (k:=0) (t:=a) (A:=putr A a (λj=>if j=a then 1 else 0)) (by lia);have r0:rotN 0 a 0=a:=by show(if 0<0 then 0 else if 0=0 then 0+a else _)=a;rw[if_neg (by lia),if_pos rfl,NZ]
 have top:det (n+1) (λi=>putr A a (λj=>if j=a then 1 else 0) (rotN 0 a i))=sg a * det n (λi j=>A (sk a i) (sk a j)):=by
  show sm (n+1) (λj=>sg j * putr A a (λj=>if j=a then 1 else 0) (rotN 0 a 0) j * det n (mn (λi=>putr A a (λj=>if j=a then 1 else 0) (rotN 0 a i)) j))=_;rw[fM ha λj _ XH=>?_]
  .rw[r0];have e1:putr A a (λj=>if j=a then 1 else 0) a a=1:=by unfold putr;rw[if_pos rfl,if_pos rfl]
   rw[e1,Mj];refine Xx (sg a * ·) (Zk λi j _ _=>?_);show putr A a (λj=>if j=a then 1 else 0) (rotN 0 a (i+1)) (sk a j)=A (sk a i) (sk a j)
   rw[rF];unfold putr;rw[if_neg (by unfold sk;split <;> lia)]
  .rw[r0];have e1:putr A a (λj=>if j=a then 1 else 0) a j=0:=by unfold putr;rw[if_pos rfl,if_neg XH]
   rw[e1,Sy,Gx]
 rw[top]at e;have h:=Xx (sg a * ·) e
 simp only [<- Sz]at h;rw[show sg a * sg a=1 by unfold sg;split <;> rfl,Tc,Tc]at h
 exact h.symm
theorem fL{w:Int}(ha:a<n+1):det (n+1) (λi j=>A i j+w * ((if i=a then 1 else 0) * (if j=a then 1 else 0)))=det (n+1) A+w * det n (λi j=>A (sk a i) (sk a j)):=by
 have e:det (n+1) (λi j=>A i j+w * ((if i=a then 1 else 0) * (if j=a then 1 else 0)))=det (n+1) (putr A a (λj=>w * (λj=>if j=a then 1 else 0) j+A a j)):=Zk λi j _ _=>by
  unfold putr;by_cases h:i=a
  .subst h;rw[if_pos rfl,if_pos rfl,Tc];show A i j+w * (if j=i then 1 else 0)=w * (if j=i then 1 else 0)+A i j
   exact Int.add_comm ..
  .rw[if_neg h,if_neg h,Gx,Sy,RX]
 rw[e,fP ha,fO,rE ha];lia
def ind(u v i:Nat):Int:=(if i=u then 1 else 0) - (if i=v then 1 else 0)
def Vz(A:Mx)(a b:Nat):Mx:=λi j=>(A i j+(if i=b then A a j else 0))+(if j=b then A i a+(if i=b then A a a else 0) else 0)
theorem fK(ha:a<n)(hb:b<n)(XH:a≠b):det n (Vz A a b)=det n A:=by
 have e1:det n A=det n (putr A b (λj=>A b j+1 * A a j)):=(fN hb ha (XG XH)).symm;obtain⟨R,hR⟩:∃ R:Mx,R=putr A b (λj=>A b j+1 * A a j):=⟨_,rfl⟩;have e2:det n R=det n (putr (λi j=>R j i) b (λj=>(λi j=>R j i) b j+1 * (λi j=>R j i) a j)):=by rw[fN (A:=λi j=>R j i) hb ha (XG XH)];exact Px.symm
 rw[e1,<- hR,e2,<- Px (A:=putr (λi j=>R j i) b (λj=>(λi j=>R j i) b j+1 * (λi j=>R j i) a j))];refine Zk λi j _ _=>?_;have rv:∀ r c,R r c=A r c+(if r=b then A a c else 0):=λr c=>by
  rw[hR];unfold putr;by_cases h:r=b
  .rw[if_pos h,if_pos h,h];lia
  .rw[if_neg h,if_neg h];lia
 unfold Vz;show _=(putr (λi j=>R j i) b (λj=>R j b+1 * R j a)) j i
 unfold putr;by_cases h:j=b
 .rw[if_pos h,if_pos h,rv,rv,h];by_cases h2:i=b
  .rw[if_pos h2,if_pos h2];lia
  .rw[if_neg h2,if_neg h2];lia
 .rw[if_neg h,if_neg h];show _=R i j
  rw[rv];lia
theorem rD{w:Int}(ha:a<n+1)(hb:b<n+1)(XH:a≠b):det (n+1) (λi j=>A i j+w * (ind a b i * ind a b j))=det (n+1) A+w * det n (λi j=>Vz A a b (sk a i) (sk a j)):=by
 have e1:=fK (A:=λi j=>A i j+w * (ind a b i * ind a b j)) ha hb XH;have e2:det (n+1) (Vz (λi j=>A i j+w * (ind a b i * ind a b j)) a b)=det (n+1) (λi j=>Vz A a b i j+w * ((if i=a then 1 else 0) * (if j=a then 1 else 0))):=Zk λi j _ _=>by
  have na:¬ a=b:=XH;have nb:¬ b=a:=XG XH
  unfold Vz ind;by_cases hi:i=b
  .subst hi;by_cases hj:j=i
   .subst hj;simp[na,nb];lia
   .by_cases SK:j=a
    .subst SK;simp[na,nb,hj];lia
    .simp[na,nb,hj,SK]
  .by_cases VO:i=a
   .subst VO;by_cases hj:j=b
    .subst hj;simp[na,nb];lia
    .by_cases SK:j=i
     .subst SK;simp[na,nb]
     .simp[na,nb,hj,SK]
   .by_cases hj:j=b
    .subst hj;simp[na,nb,hi,VO]
    .by_cases SK:j=a
     .subst SK;simp[na,nb,hi,VO]
     .simp[na,nb,hi,VO,hj,SK]
 rw[<- e1,e2,fL ha,fK ha hb XH]
end My
namespace My
open PySem L2
abbrev Ed:=Nat × Nat × Int
def lapE:List Ed->Mx
 | []=>λ_ _=>0
 | e :: E=>λi j=>e.2.2 * (ind e.1 e.2.1 i * ind e.1 e.2.1 j)+lapE E i j
theorem rC(E:List Ed)(e:Ed)(i j:Nat):lapE (E++[e]) i j=lapE E i j+e.2.2 * (ind e.1 e.2.1 i * ind e.1 e.2.1 j):=by
 induction E with
 | nil=>show _+0=0+_;lia
 | cons f E ih =>
  show _+lapE (E++[e]) i j=_+lapE E i j+_;rw[ih];lia
def Ug(E:List Ed)(z:Int):Nat × Nat:=((E.getD z.toNat (0,0,0)).1,(E.getD z.toNat (0,0,0)).2.1)
def UU(E:List Ed):Ac->Int
 | []=>1
 | z :: T=>(E.getD z.toNat (0,0,0)).2.2 * UU E T
theorem rB(E:List Ed)(S T:Ac):UU E (S++T)=UU E S * UU E T:=by
 induction S with
 | nil=>show _=1 * _;rw[Tc];rfl
 | cons z S ih=>show _ * UU E (S++T)=_ * _ * _;rw[ih,Sz]
def IsT(k:Nat)(E:List Ed)(T:Ac):Prop:=IsSet E.length T/\T.length=k/\∀ i j,i<k+1->j<k+1->Conn (T.map (Ug E)) i j
def TW(k:Nat)(E:List Ed)(s:Int):Prop:=∃ L:Ab,L.Nodup/\(∀ T,T∈L↔IsT k E T)/\(L.map (UU E)).sum=s
theorem fJ{E:List Ed}{e:Ed}{z:Int}(h0:0<=z)(h1:z<(E.length:Int)):(E++[e]).getD z.toNat (0,0,0)=E.getD z.toNat (0,0,0):=by rw[WO,WO,Yu (by lia)]
theorem fI(E:List Ed)(e:Ed):(E++[e]).getD (E.length:Int).toNat (0,0,0)=e:=by rw[WO,YH,Ys (XJ _),QE];rfl
theorem JA{e:Ed}(h:IsSet E.length T):T.map (Ug (E++[e]))=T.map (Ug E):=VU λz hz=>by
 have:=h.all z hz
 unfold Ug;rw[fJ this.1 this.2]
theorem Jz{e:Ed}(h:∀ z∈T,0<=z/\z<(E.length:Int)):UU (E++[e]) T=UU E T:=by
 induction T with
 | nil=>rfl
 | cons z T ih =>
  have hz:=h z Yc;show _ * UU (E++[e]) T=_ * UU E T
  rw[fJ hz.1 hz.2,ih λy hy=>h y (Yf _ hy)]
theorem zd{e:Ed}(h:IsSet E.length T):IsT k (E++[e]) T↔IsT k E T:=by
 have h2:IsSet (E++[e]).length T:=by rw[Xv];exact h.up
 constructor
 .rintro⟨_,a,b⟩;exact⟨h,a,by rwa[JA h]at b⟩
 .rintro⟨_,a,b⟩;exact⟨h2,a,by rwa[JA h]⟩
theorem fH{e:Ed}(h:IsSet E.length T):(T++[(E.length:Int)]).map (Ug (E++[e]))=T.map (Ug E)++[(e.1,e.2.1)]:=by
 rw[YJ,JA h];show _++[Ug (E++[e]) (E.length:Int)]=_
 unfold Ug;rw[fI]
def sh(a x:Nat):Nat:=if x<a then x else x - 1
def dl(a b x:Nat):Nat:=if x=a then sh a b else sh a x
theorem Jy(a y:Nat):sh a (sk a y)=y:=by
 unfold sk;by_cases h:y<a
 .rw[if_pos h];unfold sh;rw[if_pos h]
 .rw[if_neg h];unfold sh;rw[if_neg (by lia)];lia
theorem LD(a y:Nat):sk a y≠a:=by unfold sk;split <;> lia
theorem Sm(h:x≠a):sk a (sh a x)=x:=by
 unfold sh;by_cases c:x<a
 .rw[if_pos c];unfold sk;rw[if_pos c]
 .rw[if_neg c];unfold sk;rw[if_neg (by lia)];lia
theorem Nh(a b y:Nat):dl a b (sk a y)=y:=by unfold dl;rw[if_neg (LD a y),Jy]
theorem rz(hx:x≠a)(hy:y≠a)(h:sh a x=sh a y):x=y:=by
 have:=Xx (sk a) h
 rwa[Sm hx,Sm hy]at this
theorem rq(XH:b≠a)(h:dl a b x=dl a b y):x=y\/(x=a/\y=b)\/(x=b/\y=a):=by
 unfold dl at h;by_cases hx:x=a
 .rw[if_pos hx]at h;by_cases hy:y=a
  .exact .inl (hx.trans hy.symm)
  .rw[if_neg hy]at h;exact .inr (.inl ⟨hx,(rz XH hy h).symm⟩)
 .rw[if_neg hx]at h;by_cases hy:y=a
  .rw[if_pos hy]at h;exact .inr (.inr ⟨rz hx XH h,hy⟩)
  .rw[if_neg hy]at h;exact .inl (rz hx hy h)
theorem rp(a b:Nat)(XH:b≠a):dl a b a=dl a b b:=by unfold dl;rw[if_pos rfl,if_neg XH]
theorem DW{es:List (Nat × Nat)}{i j:Nat}(XH:b≠a)(c:Conn (es++[(a,b)]) i j):Conn (es.map λe=>(dl a b e.1,dl a b e.2)) (dl a b i) (dl a b j):=by
 induction c with
 | refl i=>exact .refl _
 | edge q =>
  rcases Xr.mp q with q | q
  .exact .edge (YD.mpr ⟨_,q,rfl⟩)
  .have e:=XC.mp q;injection e with e1 e2
   rw[e1,e2,rp a b XH];exact .refl _
 | symm _ ih=>exact .symm ih
 | trans _ _ a b=>exact .trans a b
theorem DV{es:List (Nat × Nat)}{u v:Nat}(XH:b≠a)(c:Conn (es.map λe=>(dl a b e.1,dl a b e.2)) u v):∀ i j,dl a b i=u->dl a b j=v->Conn (es++[(a,b)]) i j:=by
 have he:Conn (es++[(a,b)]) a b:=.edge (by simp);have same:∀ i j,dl a b i=dl a b j->Conn (es++[(a,b)]) i j:=λi j e=>by
  rcases rq XH e with e | ⟨e1,e2⟩ | ⟨e1,e2⟩
  .rw[e];exact .refl _
  .rw[e1,e2];exact he
  .rw[e1,e2];exact he.symm
 induction c with
 | refl u=>exact λi j e1 e2=>same i j (e1.trans e2.symm)
 | edge q =>
  intro i j e1 e2;obtain⟨⟨x,y⟩,LK,e⟩:=YD.mp q;injection e with x1 x2
  exact(same i x (e1.trans x1.symm)).trans (.trans (.edge (Ye _ LK)) (same y j (x2.trans e2.symm)))
 | symm _ ih=>exact λi j e1 e2=>(ih j i e2 e1).symm
 | @trans x y z _ _ PK Th=>exact λi j e1 e2=>(PK i (sk a y) e1 (Nh a b y)).trans (Th (sk a y) j (Nh a b y) e2)
theorem Ng{a b x k:Nat}(ha:a<k+1)(hb:b<k+2)(XH:b≠a)(hx:x<k+2):dl a b x<k+1:=by
 unfold dl sh;by_cases h:x=a
 .rw[if_pos h];split <;> grind
 .rw[if_neg h];split <;> grind
theorem fG{a b k:Nat}{es:List (Nat × Nat)}(ha:a<k+1)(hb:b<k+2)(XH:b≠a):(∀ i j,i<k+2->j<k+2->Conn (es++[(a,b)]) i j)↔∀ i j,i<k+1->j<k+1->Conn (es.map λe=>(dl a b e.1,dl a b e.2)) i j:=by
 constructor
 .intro c i j h1 h2
  have:=DW XH (c (sk a i) (sk a j) (PD h1) (PD h2))
  rwa[Nh,Nh]at this
 .exact λc i j h1 h2=>DV XH (c _ _ (Ng ha hb XH h1) (Ng ha hb XH h2)) i j rfl rfl
def Tf(a b:Nat)(E:List Ed):List Ed:=E.map λe=>(dl a b e.1,dl a b e.2.1,e.2.2)
theorem fF{z:Int}(h0:0<=z)(h1:z<(E.length:Int)):(Tf a b E).getD z.toNat (0,0,0)=(dl a b (E.getD z.toNat (0,0,0)).1,dl a b (E.getD z.toNat (0,0,0)).2.1,(E.getD z.toNat (0,0,0)).2.2):=by unfold Tf;rw[WO,WO,Yn,Xu (by omega)];rfl
theorem fE(h:IsSet E.length T):T.map (Ug (Tf a b E))=(T.map (Ug E)).map λe=>(dl a b e.1,dl a b e.2):=by
 rw[Mm];refine VU λz hz=>?_
 have:=h.all z hz
 unfold Ug;rw[fF this.1 this.2];rfl
theorem rn(h:∀ z∈T,0<=z/\z<(E.length:Int)):UU (Tf a b E) T=UU E T:=by
 induction T with
 | nil=>rfl
 | cons z T ih =>
  have hz:=h z Yc;show _ * UU (Tf a b E) T=_ * UU E T
  rw[fF hz.1 hz.2,ih λy hy=>h y (Yf _ hy)]
theorem DU{e:Ed}(ha:a<k+1)(hb:b<k+2)(XH:b≠a)(he:(e.1=a/\e.2.1=b)\/(e.1=b/\e.2.1=a))(h:IsSet E.length T):IsT (k+1) (E++[e]) (T++[(E.length:Int)])↔IsT k (Tf a b E) T:=by
 have hl:(Tf a b E).length=E.length:=Ya ..;have hc:(∀ i j,i<k+2->j<k+2->Conn ((T++[(E.length:Int)]).map (Ug (E++[e]))) i j)↔∀ i j,i<k+2->j<k+2->Conn (T.map (Ug E)++[(a,b)]) i j:=by
  rw[fH h];rcases he with ⟨e1,e2⟩ | ⟨e1,e2⟩
  .rw[e1,e2]
  .rw[e1,e2];exact⟨λc i j x y=>gc (c i j x y),λc i j x y=>gc (c i j x y)⟩
 have h2:IsSet (E++[e]).length (T++[(E.length:Int)]):=by rw[Xv];exact h.snoc
 constructor
 .rintro⟨_,x,y⟩;refine⟨hl ▸ h,?_,?_⟩
  .rw[Xv,Yp]at x;lia
  .rw[fE h];exact(fG ha hb XH).mp (hc.mp y)
 .rintro⟨_,x,y⟩;rw[fE h]at y;refine⟨h2,by rw[Xv,Yp,x],hc.mpr ((fG ha hb XH).mpr y)⟩
theorem rm{E:List Ed}{e:Ed}(hE:∀ f∈E,f.1<k+1/\f.2.1<k+1)(he:e.1=e.2.1)(h:IsSet E.length T):¬ IsT k (E++[e]) (T++[(E.length:Int)]):=by
 rintro⟨_,x,y⟩;rw[fH h]at y;have PJ:∀ i j,i<k+1->j<k+1->Conn (T.map (Ug E)) i j:=λi j hi hj=>(y i j hi hj).lift λf hf=>by
  rcases Xr.mp hf with q | q
  .exact .edge q
  .rw[XC.mp q,he];exact .refl _
 have WC:InN (k+1) (T.map (Ug E)):=λf hf=>by
  obtain⟨z,hz,rfl⟩:=YD.mp hf
  have:=h.all z hz
  unfold Ug;rw[WO,Xu (by lia)];exact hE _ (Oc _)
 have h2:=(LQ (by lia) WC).mpr PJ;have h3:=zt _ WC
 rw[Ya]at h3;rw[Xv,Yp]at x;lia
theorem rj{e:Ed}(hE:∀ f∈E,f.1<k+1/\f.2.1<k+1)(he:e.1=e.2.1)(h:TW k E s):TW k (E++[e]) s:=by
 obtain⟨L,a1,a2,a3⟩:=h;refine⟨L,a1,λT=>?_,?_⟩
 .rw[a2];constructor
  .exact λh=>(zd h.1).mpr h
  .intro h;have hs:=h.1
   rw[Xv]at hs;rcases gd hs with c | ⟨T',c,c2⟩
   .exact(zd c).mp h
   .exact absurd (c ▸ h) (rm hE he c2)
 .rw[<- a3];refine Xx List.sum (VU λT hT=>Jz ((a2 T).mp hT).1.all)
theorem rh(a b:Ac):(a++b).sum=a.sum+b.sum:=by
 induction a with
 | nil=>rw[Mo,List.sum_nil,HW]
 | cons x a ih=>rw[GF,Qw,Qw,ih];lia
theorem ZT7(w:Int)(l:Ab)(f:Ac->Int):(l.map λT=>f T * w).sum=w * (l.map f).sum:=by
 induction l with
 | nil=>rw[List.map_nil,List.map_nil,List.sum_nil,Sy]
 | cons x l ih=>rw[WL,WL,Qw,Qw,ih,KQ,QD]
theorem rg{e:Ed}(ha:a<k+1)(hb:b<k+2)(XH:b≠a)(he:(e.1=a/\e.2.1=b)\/(e.1=b/\e.2.1=a))(h1:TW (k+1) E s1)(h2:TW k (Tf a b E) s2):TW (k+1) (E++[e]) (s1+e.2.2 * s2):=by
 obtain⟨L,a1,a2,a3⟩:=h1;obtain⟨M,b1,b2,b3⟩:=h2;have hl:(Tf a b E).length=E.length:=Ya ..
 refine⟨L++M.map (·++[(E.length:Int)]),Wr.mpr ⟨a1,?_,λx hx y hy c=>?_⟩,λT=>?_,?_⟩
 .exact List.Pairwise.map _ (λx y h c=>h (List.append_cancel_right c)) b1
 .obtain⟨z,hz,c2⟩:=YD.mp hy
  have:=((a2 x).mp hx).1.all (E.length:Int) (by rw[c,<- c2];simp)
  lia
 .rw[Xr,a2,YD];constructor
  .rintro(h | ⟨T',hT,rfl⟩)
   .exact(zd h.1).mpr h
   .have:=(b2 T').mp hT
    exact(DU ha hb XH he (hl ▸ this.1)).mpr this
  .intro h;have hs:=h.1
   rw[Xv]at hs;rcases gd hs with c | ⟨T',c,c2⟩
   .exact .inl ((zd c).mp h)
   .exact .inr ⟨T',(b2 T').mpr ((DU ha hb XH he c2).mp (c ▸ h)),c.symm⟩
 .rw[YJ,rh,Mm];have e1:L.map (UU (E++[e]))=L.map (UU E):=VU λT hT=>Jz ((a2 T).mp hT).1.all
  have e2:M.map (UU (E++[e]) ∘ (·++[(E.length:Int)]))=M.map λT=>UU (Tf a b E) T * e.2.2:=VU λT hT=>by
   have hs:IsSet E.length T:=hl ▸ ((b2 T).mp hT).1;show UU (E++[e]) (T++[(E.length:Int)])=_
   rw[rB,Jz hs.all,rn hs.all];show _ * (((E++[e]).getD (E.length:Int).toNat (0,0,0)).2.2 * 1)=_
   rw[fI,Mj]
  rw[e1,e2,a3,ZT7,b3]
theorem DT(XH:b≠a):ind (dl a b u) (dl a b v) i=ind u v (sk a i)+(if sk a i=b then ind u v a else 0):=by
 have key:∀ x:Nat,((if i=dl a b x then 1 else 0:Int))=(if sk a i=x then 1 else 0)+(if sk a i=b then (if a=x then 1 else 0) else 0):=λx=>by
  unfold dl;by_cases hx:x=a
  .rw[if_pos hx,if_neg (show ¬ sk a i=x from hx ▸ LD a i),HW];by_cases h:sk a i=b
   .rw[if_pos h,if_pos hx.symm,if_pos];rw[<- h,Jy]
   .rw[if_neg h,if_neg];intro e;exact h (by rw[e,Sm XH])
  .rw[if_neg hx];have e2:(if sk a i=b then (if a=x then 1 else 0:Int) else 0)=0:=by rw[if_neg (XG hx)];split <;> rfl
   rw[e2,RX];by_cases h:sk a i=x
   .rw[if_pos h,if_pos];rw[<- h,Jy]
   .rw[if_neg h,if_neg];intro e;exact h (by rw[e,Sm hx])
 unfold ind;rw[key u,key v];by_cases h:sk a i=b
 .rw[if_pos h,if_pos h,if_pos h];lia
 .rw[if_neg h,if_neg h,if_neg h];lia
theorem fD(XH:b≠a)(i j:Nat):∀ E:List Ed,lapE (Tf a b E) i j=Vz (lapE E) a b (sk a i) (sk a j)
 | []=>by
  show(0:Int)=_;unfold Vz lapE;by_cases h:sk a i=b
  .by_cases h2:sk a j=b
   .rw[if_pos h,if_pos h2];rfl
   .rw[if_pos h,if_neg h2];rfl
  .by_cases h2:sk a j=b
   .rw[if_neg h,if_pos h2];rfl
   .rw[if_neg h,if_neg h2];rfl
 | e :: E=>by
  have ih:=fD XH i j E;show e.2.2 * (ind (dl a b e.1) (dl a b e.2.1) i * ind (dl a b e.1) (dl a b e.2.1) j)+lapE (Tf a b E) i j=_
  rw[ih,DT XH,DT XH];unfold Vz;show _=(e.2.2 * (ind e.1 e.2.1 (sk a i) * ind e.1 e.2.1 (sk a j))+lapE E (sk a i) (sk a j)+(if sk a i=b then e.2.2 * (ind e.1 e.2.1 a * ind e.1 e.2.1 (sk a j))+lapE E a (sk a j) else 0))+(if sk a j=b then (e.2.2 * (ind e.1 e.2.1 (sk a i) * ind e.1 e.2.1 a)+lapE E (sk a i) a)+(if sk a i=b then e.2.2 * (ind e.1 e.2.1 a * ind e.1 e.2.1 a)+lapE E a a else 0) else 0)
  generalize ind e.1 e.2.1 (sk a i)=x;generalize ind e.1 e.2.1 (sk a j)=y;generalize ind e.1 e.2.1 a=z;generalize e.2.2=w;by_cases h:sk a i=b
  .by_cases h2:sk a j=b
   .simp only [if_pos h,if_pos h2,KQ,Ai];lia
   .simp only [if_pos h,if_neg h2,KQ,Ai,RX,Sy];lia
  .by_cases h2:sk a j=b
   .simp only [if_neg h,if_pos h2,KQ,Ai,RX,Gx];lia
   .simp only [if_neg h,if_neg h2,RX]
theorem DS(u v i:Nat):ind v u i=- ind u v i:=by unfold ind;lia
theorem rf{e:Ed}(ha:a<k+1)(hb:b<k+2)(XH:b≠a)(he:(e.1=a/\e.2.1=b)\/(e.1=b/\e.2.1=a)):det (k+1) (lapE (E++[e]))=det (k+1) (lapE E)+e.2.2 * det k (lapE (Tf a b E)):=by
 have e1:det (k+1) (lapE (E++[e]))=det (k+1) (λi j=>lapE E i j+e.2.2 * (ind a b i * ind a b j)):=Zk λi j _ _=>by
  rw[rC];rcases he with ⟨x,y⟩ | ⟨x,y⟩
  .rw[x,y]
  .rw[x,y,DS a b i,DS a b j,Int.neg_mul_neg]
 have e2:det k (lapE (Tf a b E))=det k (λi j=>Vz (lapE E) a b (sk a i) (sk a j)):=Zk λi j _ _=>fD XH i j E;rw[e1,e2];by_cases hk:b<k+1
 .exact rD ha hk (XG XH)
 .have e3:det (k+1) (λi j=>lapE E i j+e.2.2 * (ind a b i * ind a b j))=det (k+1) (λi j=>lapE E i j+e.2.2 * ((if i=a then 1 else 0) * (if j=a then 1 else 0))):=Zk λi j hi hj=>by unfold ind;rw[if_neg (show ¬ i=b by lia),if_neg (show ¬ j=b by lia),Int.sub_zero,Int.sub_zero]
  have e4:det k (λi j=>Vz (lapE E) a b (sk a i) (sk a j))=det k (λi j=>lapE E (sk a i) (sk a j)):=Zk λi j hi hj=>by
   have h1:=PD (j:=a) hi;have h2:=PD (j:=a) hj
   unfold Vz;rw[if_neg (show ¬ sk a i=b by lia),if_neg (show ¬ sk a j=b by lia),RX,RX]
  rw[e3,e4];exact fL ha
theorem DR{e:Ed}(he:e.1=e.2.1):lapE (E++[e])=lapE E:=by
 funext i j
 rw[rC,he];unfold ind;rw[Int.sub_self,Gx,Sy,RX]
theorem zb:∀(m k:Nat) (E:List Ed),E.length=m->(∀ e∈E,e.1<k+1/\e.2.1<k+1)->TW k E (det k (lapE E))
 | 0,k,E,hm,_=>by
  obtain rfl:=YX.mp hm;cases k with
  | zero =>
   refine⟨[[]],by simp,λT=>?_,rfl⟩;rw[XC];constructor
   .rintro rfl;exact⟨IsSet.nil _,rfl,λi j hi hj=>by
     have:i=j:=by lia
     rw[this];exact .refl j⟩
   .intro h;exact YX.mp h.2.1
  | succ k =>
   refine⟨[],.nil,λT=>⟨λh=>(by cases h),λh=>?_⟩,?_⟩
   .have h1:=h.1.len;have h2:=h.2.1
    rw[Ub]at h1;lia
   .exact(fZ (i:=0) (by lia) λj _=>rfl).symm
 | m+1,k,E,hm,hE=>by
  obtain⟨E',e,rfl⟩:∃ E' e,E=E'++[e]:=⟨E.dropLast,E.getLast (λh=>by rw[h]at hm;cases hm),(jk _).symm⟩;have LS:E'.length=m:=by rw[Xv]at hm;simpa using hm
  have rd:∀ f∈E',f.1<k+1/\f.2.1<k+1:=λf hf=>hE f (Ye _ hf);have he:=hE e (by simp)
  have ih:=zb m k E' LS rd;by_cases hl:e.1=e.2.1
  .rw[DR hl];exact rj rd hl ih
  .obtain⟨k',rfl⟩:∃ k',k=k'+1:=⟨k - 1,by lia⟩;obtain⟨a,b,ha,hb,XH,VJ⟩:∃ a b,a<k'+1/\b<k'+2/\b≠a/\((e.1=a/\e.2.1=b)\/(e.1=b/\e.2.1=a)):=by
    by_cases c:e.1<k'+1
    .exact⟨e.1,e.2.1,c,he.2,λh=>hl h.symm,.inl ⟨rfl,rfl⟩⟩
    .exact⟨e.2.1,e.1,by lia,he.1,hl,.inr ⟨rfl,rfl⟩⟩
   have Th:=zb m k' (Tf a b E') (by unfold Tf;rwa[Ya]) λf hf=>by
    obtain⟨g,hg,rfl⟩:=YD.mp hf
    have:=rd g hg
    exact⟨Ng ha hb XH this.1,Ng ha hb XH this.2⟩
   rw[rf ha hb XH VJ];exact rg ha hb XH VJ ih Th
def VI(ps:Aa)(ws:Ac):List Ed:=List.zipWith (λp w=>(p.1.toNat,p.2.toNat,w)) ps ws
theorem fC(h1:1<=n)(hw:ws.length=ps.length):IsT (n - 1).toNat (VI ps ws) T↔Ze n ps T:=by
 have hl:(VI ps ws).length=ps.length:=by unfold VI;rw[Od];grind
 have hm:IsSet ps.length T->T.map (Ug (VI ps ws))=XQ ps T:=λhs=>VU λz hz=>by
  have:=hs.all z hz
  unfold Ug VI;rw[WO,Mv,Xu (by lia),Xu (show z.toNat<ws.length by lia),WO,Xu (by omega)];rfl
 unfold IsT Ze;rw[hl];constructor
 .rintro⟨a,b,c⟩;rw[hm a]at c;exact⟨a,by lia,λi j hi hj=>c i j (by lia) (by grind)⟩
 .rintro⟨a,b,c⟩;rw[hm a];exact⟨a,by lia,λi j hi hj=>c i j (by lia) (by lia)⟩
theorem DQ(h:∀ e∈E,e.2.2=1):∀ {T:Ac},(∀ z∈T,0<=z/\z<(E.length:Int))->UU E T=1
 | [],_=>rfl
 | z :: T,hb=>by
  have hz:=hb z Yc;show(E.getD z.toNat (0,0,0)).2.2 * UU E T=1
  rw[DQ h λy hy=>hb y (Yf _ hy),Mj,WO,Xu (by lia)];exact h _ (Oc _)
theorem ZM9{l:Ab}{f:Ac->Int}(h:∀ T∈l,f T=1):(l.map f).sum=(l.length:Int):=by
 induction l with
 | nil=>rfl
 | cons x l ih =>
  rw[WL,Qw,ih λT hT=>h T (Yf _ hT),h x Yc,Yt];lia
theorem DP(g:Zz n ps)(ws:Ac):∀ e∈VI ps ws,e.1<(n - 1).toNat+1/\e.2.1<(n - 1).toNat+1:=λe he=>by
 unfold VI at he;obtain⟨i,hi⟩:=QG he;rw[Mv]at hi;have g1:=g.1
 cases h1:ps[i]? with
 | none=>rw[h1]at hi;cases hi
 | some p =>
  cases h2:ws[i]? with
  | none=>rw[h1,h2]at hi;cases hi
  | some w =>
   rw[h1,h2]at hi;obtain rfl:=Yi hi;obtain⟨a,b,c,d⟩:=g.2.2.2 p (Xi h1);exact⟨by show p.1.toNat<_;grind,by show p.2.toNat<_;lia⟩
theorem ZJ9(g:Zz n ps){L:Ab}(hL:L.Nodup)(hm:∀ l,l∈L↔Ze n ps l):det (n - 1).toNat (lapE (VI ps (List.replicate ps.length 1)))=(L.length:Int):=by
 have g1:=g.1;have hw:(List.replicate ps.length (1:Int)).length=ps.length:=YK
 obtain⟨M,a1,a2,a3⟩:=zb _ (n - 1).toNat (VI ps (List.replicate ps.length 1)) rfl (DP g _);have hl:(VI ps (List.replicate ps.length 1)).length=ps.length:=by unfold VI;rw[Od,hw];grind
 have w1:∀ e∈VI ps (List.replicate ps.length (1:Int)),e.2.2=1:=λe he=>by
  unfold VI at he;obtain⟨i,hi⟩:=QG he;rw[Mv]at hi;cases h1:ps[i]? with
  | none=>rw[h1]at hi;cases hi
  | some p =>
   cases h2:(List.replicate ps.length (1:Int))[i]? with
   | none=>rw[h1,h2]at hi;cases hi
   | some w =>
    rw[h1,h2]at hi;obtain rfl:=Yi hi;exact AH (Xi h2)
 rw[<- a3,ZM9 λT hT=>DQ w1 ((a2 T).mp hT).1.all];have hp:M.Perm L:=(Le a1 hL).mpr λl=>by rw[a2,hm,fC g1 hw]
 rw[hp.length_eq]
end My
namespace L2
open PySem PySem.Spec PyProof.Rows
section
variable{X:Cx}
def q9(K:Ad):V->V->Hp->VK->Prop:=λx y H Q=>∃ p xs i v,x=.ref p/\y=.int i/\SqL K H p xs/\0<=i/\xs[i.toNat]?=some v/\Q v H
theorem y9(K:Ad)(hk:X.K=K:=by rfl):Ge X (q9 K):=by
 subst hk;intro pins s σ H o i ov iv Q I ro ri h;obtain⟨p,xs,j,z,rfl,rfl,hq,h0,he,q⟩:=h;cases ro;obtain⟨t,rfl⟩:=ri;obtain⟨XW,r,pl,hz⟩:=I.list hq;obtain⟨w,ew,Kh⟩:=r.get he;have hl:=r.length
 have hn:=Km;have Xe:=(Xm.mp he).1
 exact wpAny_getItem_list pl.isList h0 (by lia) (by simpa using ew) ⟨z,H,I,Kh,q⟩
end
end L2
namespace My
open PySem L2
theorem q8{g:TG}{tb:TS}{D:Ends}(LK:xs.length=ys.length)(Pv:Nat->St->Hp->Prop)(h0:Pv 0 σ H)(hl:∀ i σ H,i<=xs.length->Pv i σ H->SqL K H a xs/\SqL K H b ys)
  (hs:∀(i:Nat) x y σ H (p:Addr),H p=none->xs[i]?=some x->ys[i]?=some y->Pv i σ H->g (.ref p) σ (upd H p (.tup [x,y])) λσ2 H2=>tb { D with nx:=Pv (i+1),ct:=Pv (i+1),bk:=D.nx } σ2 H2) (hd:∀ σ H,Pv xs.length σ H->D.nx σ H) :
  ∃ W:Nat->Nat->St->Hp->Prop,(∃ m,W 0 m σ H)/\∀ i m σ H,W i m σ H ->
   ((Hn K a b).stop i H/\D.nx σ H)\/((Hn K a b).go i H/\∃ N:St->Hp->Prop,(∀ σ' H',N σ' H'->∃ m',m'<m/\W (i+1) m' σ' H')/\∀ x H',(Hn K a b).yld i H x H'->g x σ H' λσ2 H2=>tb { D with nx:=N,ct:=N,bk:=D.nx } σ2 H2):=by
 refine⟨λi m σ H=>m=xs.length - i/\i<=xs.length/\Pv i σ H,⟨xs.length,by simp,Yk _,h0⟩,?_⟩;rintro i m σ H ⟨rfl,hi,p⟩;obtain⟨q,q2⟩:=hl i σ H hi p;by_cases Xe:i<xs.length
 .refine .inr ⟨⟨xs,ys,xs[i],ys[i]'(by lia),q,q2,by simp[Xe],Xu (by omega)⟩,Pv (i+1),λσ' H' p'=>⟨xs.length - (i+1),by grind,rfl,Xe,p'⟩,λx H' ⟨T,u,v,hT,ex,eH,hu,hv⟩=>?_⟩;subst ex eH;exact hs i u v σ H T hT (hu xs q) (hv ys q2) p
 .have e:i=xs.length:=by lia
  subst e;exact .inl ⟨⟨xs,ys,q,q2,.inl (XJ _)⟩,hd σ H p⟩
structure TabAt (H0:Hp) (r:Addr) (n:Nat) (H:Hp) (ys:List V) (L:Ab):Prop where
 tab:H r=some (.lst ys)
 rows:Bears (LiV r H) ys L
 len:L.length=n
 all:∀ l∈L,l.length=n
 nd:ys.Nodup
 new:∀ A,V.ref A∈ys->H0 A=none
theorem TabAt.same(s:Same H H')(h:TabAt H0 r n H ys L):TabAt H0 r n H' ys L:=⟨s _ _ h.tab,h.rows.imp λ_ _ q=>q.same s,h.len,h.all,h.nd,h.new⟩
theorem TabAt.at(h:TabAt H0 r n H ys L){i:Nat}(hi:i<n):∃(A:Addr) (l:Ac),ys[i]?=some (.ref A)/\L[i]?=some l/\H A=some (.lst (IL l))/\l.length=n/\H0 A=none/\A≠r:=by have hl:=h.len;obtain⟨l,e⟩:∃ l,L[i]?=some l:=⟨_,Xu (by lia)⟩;obtain⟨v,e1,A,rfl,e2,e3⟩:=h.rows.2 i l e;exact⟨A,l,e1,e,e2,h.all l (Xi e),h.new A (Xi e1),e3⟩
theorem TabAt.put(h:TabAt H0 r n H ys L){l l':Ac}(e1:ys[i]?=some (.ref A))(e2:L[i]?=some l)(e3:A≠r)(hl:l'.length=n):TabAt H0 r n (upd H A (.lst (IL l'))) ys (L.set i l'):=by
 have hi:=(Xm.mp e2).1;have Vh:=(Xm.mp e1).1
 refine⟨by rw[Za (XG e3)];exact h.tab,⟨by rw[Mn];exact h.rows.1,λj m em=>?_⟩,by rw[Mn];exact h.len,λm hm=>?_,h.nd,h.new⟩
 .rw[GH]at em;by_cases c:i=j
  .subst c;rw[if_pos rfl,if_pos hi]at em;obtain rfl:=Yi em;exact⟨_,e1,A,rfl,XS,e3⟩
  .rw[if_neg c]at em;obtain⟨v,f1,B,rfl,f2,f3⟩:=h.rows.2 j m em;refine⟨_,f1,B,rfl,?_,f3⟩;rw[Za]
   .exact f2
   .intro e;rw[e]at f1;exact c (Hz h.nd e1 f1)
 .rcases List.mem_or_eq_of_mem_set hm with e | e
  .exact h.all m e
  .rw[e];exact hl
theorem qZ{L:Ab}{l:Ac}(hi:L[i]?=some l)(hj:j<l.length)(a b:Nat):fnL (L.set i (l.set j x)) a b=if a=i/\b=j then x else fnL L a b:=by
 have Vh:=(Xm.mp hi).1;unfold fnL;by_cases ha:a=i
 .subst ha;have e1:(L.set a (l.set j x)).getD a []=l.set j x:=by rw[WO,GH,if_pos rfl,if_pos Vh];rfl
  have e2:L.getD a []=l:=by rw[WO,hi];rfl
  rw[e1,e2];by_cases hb:b=j
  .subst hb;rw[if_pos ⟨rfl,rfl⟩,WO,GH,if_pos rfl,if_pos hj];rfl
  .rw[if_neg (λh=>hb h.2),WO,GH,if_neg (XG hb),<- WO]
 .have e1:(L.set i (l.set j x)).getD a []=L.getD a []:=by rw[WO,WO,GH,if_neg (XG ha)]
  rw[e1,if_neg (λh=>ha h.1)]
theorem four{A:Mx}{u v:Nat}{w:Int}(XH:u≠v)(a b:Nat){B C D E:Mx}(h1:∀ a b,B a b=if a=u/\b=u then A u u+w else A a b)(h2:∀ a b,C a b=if a=v/\b=v then B v v+w else B a b)(h3:∀ a b,D a b=if a=u/\b=v then C u v - w else C a b)(h4:∀ a b,E a b=if a=v/\b=u then D v u - w else D a b):E a b=A a b+w * (ind u v a * ind u v b):=by
 have nv:¬ v=u:=XG XH;unfold ind;by_cases x1:a=u
 .subst x1;by_cases y1:b=a
  .subst y1;simp[h4,h3,h2,h1,XH,nv]
  .by_cases y2:b=v
   .subst y2;simp[h4,h3,h2,h1,XH,nv];lia
   .simp[h4,h3,h2,h1,XH,nv,y1,y2]
 .by_cases x2:a=v
  .subst x2;by_cases y1:b=u
   .subst y1;simp[h4,h3,h2,h1,XH,nv];omega
   .by_cases y2:b=a
    .subst y2;simp[h4,h3,h2,h1,XH,nv]
    .simp[h4,h3,h2,h1,XH,nv,y1,y2]
  .simp[h4,h3,h2,h1,XH,nv,x1,x2]
theorem qY{ps:Aa}{ws:Ac}{p:Int × Int}{w:Int}(hp:ps[i]?=some p)(hw:ws[i]?=some w):VI (ps.take (i+1)) (ws.take (i+1))=VI (ps.take i) (ws.take i)++[(p.1.toNat,p.2.toNat,w)]:=by
 have h1:=(Xm.mp hp).1;have h2:=(Xm.mp hw).1
 unfold VI;rw[YL,YL,hp,hw];rw[List.zipWith_append (by rw[Yj,Yj];grind)];rfl
theorem Conn.image{f:Nat->Nat}(h:∀ e∈es,Conn fs (f e.1) (f e.2))(c:Conn es i j):Conn fs (f i) (f j):=by
 induction c with
 | refl i=>exact .refl _
 | edge e=>exact h _ e
 | symm _ ih=>exact ih.symm
 | trans _ _ PK Th=>exact PK.trans Th
theorem DO(g:Zz n ps)(h:IsSet ps.length T)(c:∀ i j,i<n.toNat->j<n.toNat->Conn (XQ ps T) i j):n - 1<=(T.length:Int):=by
 have g1:=g.1;have WC:=ZT (ns:=T) g h.all
 have h2:=(LQ (by lia) WC).mpr c;have h3:=zt _ WC
 rw[show(XQ ps T).length=T.length from Ya ..]at h3;lia
end My
namespace L2
open PySem
def RE(t:SetTable):Prop:=t.place.toList.Pairwise (· < ·)
theorem y8{xs:Array Nat}(h:xs.toList.Pairwise (· < ·)){i k a b:Nat}(qX:i<k)(ha:xs[i]?=some a)(hb:xs[k]?=some b):a<b:=by rw[<- YS]at ha hb;obtain⟨h1,e1⟩:=Xm.mp ha;obtain⟨h2,e2⟩:=Xm.mp hb;rw[<- e1,<- e2];exact Ik.mp h i k h1 h2 qX
theorem qW(h:xs.toList.Pairwise (· < ·)):∀(f lo hi:Nat),hi - lo<=f->lo<=hi->hi<=xs.size->(∀ i v,xs[i]?=some v->i<lo->v<j)->(∀ i v,xs[i]?=some v->hi<=i->j<=v) ->
  SetTable.below.go xs j f lo hi<=xs.size/\∀ i v,xs[i]?=some v->(i<SetTable.below.go xs j f lo hi↔v<j)
 | 0,lo,hi,hf,hl,hs,a,b=>by
  have e:lo=hi:=by grind
  unfold SetTable.below.go;refine⟨by lia,λi v hv=>⟨a i v hv,λhvj=>Nat.lt_of_not_le λhc=>?_⟩⟩
  have:=b i v hv (by lia)
  lia
 | f+1,lo,hi,hf,hl,hs,a,b=>by
  unfold SetTable.below.go;by_cases c:lo<hi
  .rw[if_pos c];dsimp only;obtain⟨m,hm⟩:∃ m,xs[(lo+hi) / 2]?=some m:=⟨_,YG (by lia)⟩;have em:xs.getD ((lo+hi) / 2) j=m:=by rw[YC,hm];rfl
   rw[em];by_cases d:m<j
   .rw[if_pos d];refine qW h f _ hi (by grind) (by lia) hs (λi v hv VO=>?_) b;by_cases e:i=(lo+hi) / 2
    .rw[e,hm]at hv;exact Yi hv ▸ d
    .have:=y8 h (show i<(lo+hi) / 2 by lia) hv hm
     lia
   .rw[if_neg d];refine qW h f lo _ (by grind) (by lia) (by lia) a λi v hv VO=>?_;by_cases e:i=(lo+hi) / 2
    .rw[e,hm]at hv
     have:=Yi hv
     lia
    .have:=y8 h (show(lo+hi) / 2<i by lia) hm hv
     lia
  .rw[if_neg c];refine⟨by grind,λi v hv=>⟨a i v hv,λhvj=>Nat.lt_of_not_le λhc=>?_⟩⟩
   have:=b i v hv (by lia)
   lia
theorem y7(h:xs.toList.Pairwise (· < ·))(j:Nat):SetTable.below xs j<=xs.size/\∀ i v,xs[i]?=some v->(i<SetTable.below xs j↔v<j) :=
 qW h xs.size 0 xs.size (by lia) (Yk _) (XJ _) (λi v _ h=>absurd h (Wq _)) λi v hv hi=>by rw[Qy hi]at hv;cases hv
theorem qV(h:xs.toList.Pairwise (· < ·)){i v:Nat}(hv:xs[i]?=some v):SetTable.below xs v=i:=by
 obtain⟨h1,h2⟩:=y7 h v;have a:¬ i<SetTable.below xs v:=λq=>by have:=(h2 i v hv).mp q;lia
 refine KH (by lia) (NQ λq=>?_);have Xe:=(Array.getElem?_eq_some_iff.mp hv).1
 obtain⟨u,hu⟩:∃ u,xs[SetTable.below xs v]?=some u:=⟨_,YG (by lia)⟩;have b:=y8 h q hu hv
 have:=(h2 _ u hu).mpr b
 lia
theorem ZJ7(h:xs.toList.Pairwise (· < ·)){i v:Nat}(hv:xs[i]?=some v):SetTable.below xs (v+1)=i+1:=by
 obtain⟨h1,h2⟩:=y7 h (v+1);have a:=(h2 i v hv).mpr (OP v)
 refine KH (NQ λq=>?_) a;obtain⟨u,hu⟩:∃ u,xs[i+1]?=some u:=⟨_,YG (by lia)⟩;have b:=(h2 _ u hu).mp q
 have:=y8 h (OP i) hv hu
 lia
theorem ZI7(h:xs.toList.Pairwise (· < ·)):SetTable.below xs 0=0:=by obtain⟨h1,h2⟩:=y7 h 0;refine Nat.le_zero.mp (NQ λq=>?_);obtain⟨u,hu⟩:∃ u,xs[0]?=some u:=⟨_,YG (by lia)⟩;exact Wq _ ((h2 _ u hu).mp q)
def RD(t:SetTable)(j:Nat):Prop:=t.place[SetTable.below t.place j]?≠some j
theorem qU(h:RE t)(hn:RD t j):RE (t.put j).1:=by
 obtain⟨h1,h2⟩:=y7 h j;have up:∀ i v,t.place[i]?=some v->SetTable.below t.place j<=i->j<v:=λi v hv hi=>by
  have a:¬ v<j:=λq=>by have:=(h2 i v hv).mpr q;lia
  have b:v≠j:=λe=>hn (by rw[e]at hv;rwa[qV h hv]);lia
 show(SetTable.insertAt t.place (SetTable.below t.place j) j).toList.Pairwise (· < ·);rw[SetTable.toList_insertAt];have dn:∀ x∈t.place.toList.take (SetTable.below t.place j),x<j:=λx hx=>by
  obtain⟨i,hi⟩:=QG hx;rw[GK]at hi;split at hi
  .rename_i q;rw[YS]at hi;exact(h2 i x hi).mp q
  .cases hi
 have ub:∀ x∈t.place.toList.drop (SetTable.below t.place j),j<x:=λx hx=>by obtain⟨i,hi⟩:=QG hx;rw[AA,YS]at hi;exact up _ x hi (Nat.le_add_right _ _)
 refine Ld.mpr ⟨iS (List.take_sublist _ _) h,YV.mpr ⟨ub,iS (List.drop_sublist _ _) h⟩,λa ha b hb=>?_⟩;rcases Yh.mp hb with e | e
 .rw[e];exact dn a ha
 .exact Nat.lt_trans (dn a ha) (ub b e)
theorem fB(h:t.slot j=.empty\/t.slot j=.dummy):RD t j:=λe=>by
 have e2:t.slot j=.live (SetTable.below t.place j):=by unfold SetTable.slot;dsimp only;rw[if_pos (by rw[e];simp)]
 rw[e2]at h;rcases h with h | h <;> cases h
theorem qT{f:Nat->Int}:∀(n:Nat) (p:SetTable.Probe) (j:Nat) (d:Option Nat),(∀ e,p.dummy=some e->RD t e)->SetTable.probe.go t f h n p=some (.empty j d)->RD t j/\∀ e,d=some e->RD t e
 | 0,p,j,d,_,h=>by cases h
 | n+1,p,j,d,hp,h=>by
  have fw:∀ q:SetTable.Probe,(t.advance q).dummy=q.dummy:=λq=>by unfold SetTable.advance;split <;> rfl
  unfold SetTable.probe.go at h;split at h
  .rename_i hs;cases h;exact⟨fB (.inl hs),hp⟩
  .rename_i hs;exact qT n _ j d (λe he=>by rw[fw]at he;cases he;exact fB (.inr hs)) h
  .split at h
   .cases h
   .exact qT n _ j d (λe he=>hp e (by rwa[fw]at he)) h
theorem Yz8{b:Bool}(e:t.freeSlot h=some (s,b)):RD t s:=by
 unfold SetTable.freeSlot at e;split at e
 .rename_i j d hp;obtain⟨a1,a2⟩:=qT _ _ j d (λe he=>by cases he) hp;have e1:=Xx Prod.fst (Yi e)
  dsimp only at e1;rw[<- e1];cases d with
  | none=>exact a1
  | some x=>exact a2 x rfl
 .cases e
theorem y6(t:SetTable)(n:Nat):RE (t.standIn n):=by show(Array.range n).toList.Pairwise (· < ·);rw[Array.toList_range];exact Qz
theorem qS(h:RE t)(es:Array (Int × Value))(k:Int)(x:Value):RE (layNew t es k x).2.1/\(layNew t es k x).2.1.led=t.led:=by
 unfold layNew;split
 .rename_i s b e;dsimp only;unfold SetTable.orStandIn;split
  .exact⟨qU h (Yz8 e),rfl⟩
  .exact⟨y6 _ _,rfl⟩
 .exact⟨y6 _ _,rfl⟩
theorem qR(h:RE t)(es:Array (Int × Value))(n:Nat):RE (relayAll t es n).2.1/\(relayAll t es n).2.1.led=t.led:=by
 unfold relayAll;split
 .rename_i t' order e;dsimp only;split
  .unfold SetTable.relaid SetTable.laid at e;cases ho:SetTable.layClean (SetTable.sizeAbove n - 1) (es.map (·.1)) with
   | none=>rw[ho]at e;cases e
   | some owner =>
    rw[ho]at e;have e1:=Xx Prod.fst (Yi e)
    dsimp only at e1;rw[<- e1];refine⟨?_,rfl⟩;show(List.map _ (List.filterMap _ _)).toArray.toList.Pairwise (· < ·)
    rw[List.toList_toArray,Mt,List.pairwise_filterMap];refine Qz.imp λ{a b} VJ x hx y hy=>?_;have ex:x.1=a:=by
     cases q:owner.getD a none with
     | none=>rw[q]at hx;cases hx
     | some z=>rw[q]at hx;cases hx;rfl
    have ey:y.1=b:=by
     cases q:owner.getD b none with
     | none=>rw[q]at hy;cases hy
     | some z=>rw[q]at hy;cases hy;rfl
    rwa[ex,ey]
  .exact⟨y6 _ _,rfl⟩
 .exact⟨y6 _ _,rfl⟩
end L2
namespace L2
open PySem PySem.Spec PyProof.Rows
def SetR(P:Program)(w:World)(h:Heap)(a:Addr)(led:Bool)(S:Int->Bool)(n:Nat):Prop :=
 ∃(o:Obj) (es:Array (Int × Value)) (ep:Nat) (t:SetTable),h.get? a=some o/\o.ExactSet/\o.data=.set es ep t/\ElemsOf (intKind P w) es.toList/\(∀ z,S z=true↔∃ y∈es.toList,(intKind P w).is z y.2=true)/\es.size<scanBound/\t.fits es.size=true/\es.size=n/\RE t/\t.led=led
theorem SetR.at{S:Int->Bool}(q:SetR P w h a led S n)(k:∀ o,h.get? a=some o->h'.get? a=some o):SetR P w h' a led S n :=
 let ⟨o,es,ep,t,ho,r⟩:=q
 ⟨o,es,ep,t,k o ho,r⟩
section
variable{prog:Program}{w:World}{A:Around}{E:Ae}{s:Shared}
theorem fv{h:Heap}{o:Obj}{es:Array (Int × Value)}{ep:Nat}{t:SetTable}(ho:h.get? a=some o)(hx:o.ExactSet)(hd:o.data=.set es ep t)(fs:Array (Int × Value))(u:SetTable) :
  (h.update a (Obj.putSet fs u)).get? a=some { o with data:=.set fs (ep+1) u }/\({ o with data:=.set fs (ep+1) u }:Obj).ExactSet:=by have q:=Vp (Obj.putSet fs u) ho (by rw[putSet_of fs u hd];rfl);rw[putSet_of fs u hd]at q;exact⟨q,hx⟩
theorem qQ{gv:Bool->Sem Unit}(hgv:∀(b:Bool) (s1:Shared) (R:Unit->Shared->Prop),R () s1->wpAny (model prog w) A (gv b) R E s1)
 {o:Obj} {es fs:Array (Int × Value)} {ep:Nat} {t u:SetTable} (ho:s.heap.get? a=some o) (hx:o.ExactSet) (hd:o.data=.set es ep t)
  {S:Int->Bool} (he:ElemsOf (intKind prog w) fs.toList) (hm:∀ z,S z=true↔∃ y∈fs.toList,(intKind prog w).is z y.2=true) (hb:fs.size<scanBound) (hf:u.fits fs.size=true) (hr:RE u) {dm:Bool} {R:Option Bool->Shared->Prop}
  (k:∀ h',Heap.SameBut a s.heap h'->SetR prog w h' a u.led S fs.size->R (some true) { s with heap:=h' }) :
  wpAny (model prog w) A (do
   storeSet a fs u
   if (!dm && u.tooFull)=true then do
    gv (relayAll u fs (SetTable.grown fs.size)).2.2
    storeSet a (relayAll u fs (SetTable.grown fs.size)).1 (relayAll u fs (SetTable.grown fs.size)).2.1
    pure (some true)
   else pure (some true)) R E s:=by
 obtain⟨h1,x1⟩:=fv ho hx hd fs u;have b1:=Mu s.heap a (Obj.putSet fs u)
 refine XT (wpAny_storeSet_of ho hd ?_ (fits_of_scanBound hb));by_cases c:(!dm && u.tooFull)=true
 .rw[if_pos c];have p:=relayAll_perm u fs (SetTable.grown fs.size)
  have f:=relayAll_fits u fs (SetTable.grown fs.size);obtain⟨r,l⟩:=qR hr fs (SetTable.grown fs.size);generalize relayAll u fs (SetTable.grown fs.size)=Z at p f r l ⊢;obtain⟨gs,v,gave⟩:=Z;dsimp only at p f r l ⊢;have ez:gs.size=fs.size:=by rw[<- YB,p.length_eq,YB]
  obtain⟨h2,x2⟩:=fv h1 x1 rfl gs v;refine XT (hgv _ _ _ (XT (wpAny_storeSet_of h1 rfl (Ym ?_) (fits_of_scanBound (by rwa[ez])))));exact k _ (b1.trans (Mu _ a _)) ⟨_,gs,_,v,h2,x2,rfl,he.perm p,λz=>(hm z).trans ⟨λ⟨y,hy,q⟩=>⟨y,p.mem_iff.mpr hy,q⟩,λ⟨y,hy,q⟩=>⟨y,p.mem_iff.mp hy,q⟩⟩,by rw[ez];exact hb,f,ez,r,l⟩
 .rw[if_neg c];exact Ym (k _ b1 ⟨_,fs,_,u,h1,x1,rfl,he,hm,hb,hf,rfl,hr,rfl⟩)
theorem DN{S:Int->Bool}{z:Int}{x:Value}{R:Bool->Shared->Prop}(hz:(intKind prog w).is z x=true)(QW:x.scannable=true)(hS:SetR prog w s.heap a led S n)(room:n+1<scanBound)
  (k:∀ h',Heap.SameBut a s.heap h'->SetR prog w h' a led (λy=>S y || decide (y=z)) (if S z then n else n+1)->R (!S z) { s with heap:=h' }) :
  wpAny (model prog w) A (setAddHashed a x ((intKind prog w).hash z)) R E s:=by
 obtain⟨o,es,ep,t,ho,hx,hd,he,hm,hb,hf,hn,hr,hl⟩:=hS;unfold setAddHashed setAddHashedIn;refine Td (XT (Ia ho hd hf ?_));dsimp only;rw[if_pos (byScan_of QW hb he)];unfold setAddByScan;refine XT (XT (Gs (XT (wpAny_setScan_of hz ho hd hf he ?_))));cases hw:List.findIdx? (λy=>(intKind prog w).is z y.2) es.toList with
 | some j =>
  obtain⟨j1,j2,_⟩:=List.findIdx?_eq_some_iff_getElem.mp hw;have yes:S z=true:=(hm z).mpr ⟨es.toList[j],Oc j1,j2⟩
  have fin:=k s.heap (Heap.SameBut.refl a s.heap) ⟨o,es,ep,t,ho,hx,hd,he,λy=>by rw[Ky,KZ,<- hm y];exact⟨λq=>q.elim id λq=>q ▸ yes,.inl⟩,hb,hf,by rw[yes];exact hn,hr,hl⟩
  rw[yes]at fin;dsimp only;exact Ym (Ym fin)
 | none =>
  have no:S z=false:=NS.mpr λq=>by
   obtain⟨y,hy,hp⟩:=(hm z).mp q
   have:=List.findIdx?_eq_none_iff.mp hw y hy
   rw[hp]at this;cases this
  dsimp only;have p:=layNew_perm t es ((intKind prog w).hash z) x
  have f:=layNew_fits t es ((intKind prog w).hash z) x;obtain⟨r,l⟩:=qS hr es ((intKind prog w).hash z) x;generalize layNew t es ((intKind prog w).hash z) x=Z at p f r l ⊢;obtain⟨fs,u,dm,gave⟩:=Z;dsimp only at p f r l ⊢;rw[xA]at p;have ez:fs.size=n+1:=by rw[<- YB,p.length_eq,Xv,YB,hn];rfl
  have gw:∀(b:Bool) {s1:Shared} {R':Unit->Shared->Prop},R' () s1->wpAny (model prog w) A (match b with | true=>rule "set.scan.the-table-gave-way" | false=>pure ()) R' E s1:=λb s1 R' q=>by
   cases b
   .exact Ym q
   .exact Gs q
  have fin:∀ h',Heap.SameBut a s.heap h'->SetR prog w h' a led (λy=>S y || decide (y=z)) fs.size->R true { s with heap:=h' }:=λh' q1 q2=>by have q:=k h' q1;rw[no]at q;rw[ez]at q2;exact q q2
  have DM:=(he.push hz QW).perm p;have TK:∀ y,(S y || decide (y=z))=true↔∃ v∈fs.toList,(intKind prog w).is y v.2=true:=mem_push_iff hz hm p
  have Jx:fs.size<scanBound:=by lia
  refine XT (gw _ ?_);have tail:∀ v:SetTable,v.fits fs.size=true->RE v->v.led=led->wpAny (model prog w) A (do
    storeSet a fs v
    if (!dm && v.tooFull)=true then do
     (match (relayAll v fs (SetTable.grown fs.size)).2.2 with | true=>rule "set.scan.the-table-gave-way" | false=>pure ())
     storeSet a (relayAll v fs (SetTable.grown fs.size)).1 (relayAll v fs (SetTable.grown fs.size)).2.1
     pure (some true)
    else pure (some true)) (λy s1=>wpAny (model prog w) A (match y with | some added=>pure added | none=>setAddHashedIn a x ((intKind prog w).hash z) 99999) R E s1) E s:=λv a1 a2 a3 =>
   qQ (gv:=λb=>match b with | true=>rule "set.scan.the-table-gave-way" | false=>pure ()) (λb s1 R' q=>gw b q) ho hx hd DM TK Jx a1 a2 λh' q1 q2=>Ym (fin h' q1 (a3 ▸ q2))
  split
  .refine XT ?_;rw[hashByValue_scannable 8 QW];refine Ym ?_;split
   .exact tail u f r (l.trans hl)
   .exact tail _ (SetTable.fits_plain_off f) r (l.trans hl)
  .refine XT (Ym ?_);rw[if_pos rfl];exact tail u f r (l.trans hl)
end
section
variable{prog:Program}{w:World}{A:Around}{R:Result->Shared->Prop}{I:Addr}{fp wr:List Addr}{G:Array GenState->Array GenState->Prop}{n:Nat}{P:Nat->Value->Prop}{St:Nat->Shared->Prop}
theorem ft(W:WalksS prog w A.in1 I fp wr G n P St)(b:Addr)(LC:b∉fp)(val:Nat->Int)(hv:∀ i v,P i v->∃ t,v=.int (val i) t)(hn:n+1<scanBound) :
  ∀(k i:Nat) (s:Shared),n - i=k->i<=n->St i s->SetR prog w s.heap b led (λz=>(firstMet val i).any (· == z)) (firstMet val i).length ->
   (∀ s',Moved (b :: wr) G s s'->SetR prog w s'.heap b led (λz=>(firstMet val n).any (· == z)) (firstMet val n).length->R (.ok (.ret .none)) s') ->
   codeAny (model prog w) A (.builtin "set.update.loop" ⟨[.ref b,.ref I],[]⟩) R s
 | 0,i,s,hk,hi,st,hS,q=>by
  have e:i=n:=by grind
  subst e;refine Ra F.entry_set_update_loop ?_;rw[La xy _];show wpAny _ A.in1 (pyNext (.ref I) >>= _) _ _ s
  refine XT (W.done s _ _ st λs1 m=>?_);show wpAny _ A.in1 (ret Value.none) _ _ s1
  exact Ym (q s1 (m.mono λc hc=>.tail _ hc) (hS.at λo ho=>m.heap b o (λhc=>LC (W.sub _ hc)) ho))
 | k+1,i,s,hk,hi,st,hS,q=>by
  have Xe:i<n:=by grind
  refine Ra F.entry_set_update_loop ?_;rw[La xy _];show wpAny _ A.in1 (pyNext (.ref I) >>= _) _ _ s
  refine XT (W.item i s _ _ Xe st λv s1 hP JW m=>?_);obtain⟨t,rfl⟩:=hv i v hP;have DL:=hS.at (h':=s1.heap) λo ho=>m.heap b o (λhc=>LC (W.sub _ hc)) ho
  show wpAny _ A.in1 (holding [Value.int (val i) t] (setAdd b (.int (val i) t)) >>= _) _ _ s1;refine XT (Td ?_);unfold setAdd;refine Td (XT ((intKind prog w).pyHash (k:=val i) (intKind_is _ _ _ _) ?_));have fm:=firstMet_length_le val i
  refine DN (s:={ s1 with toks:=s1.toks+1 }) (intKind_is _ _ _ _) rfl DL (by lia) λh2 sb EE=>?_;have hS3:SetR prog w h2 b led (λz=>(firstMet val (i+1)).any (· == z)) (firstMet val (i+1)).length:=by
   have e1:(λz=>(firstMet val (i+1)).any (· == z))=λy=>((firstMet val i).any (· == y) || decide (y=val i)):=funext λy=>by rw[firstMet_succ,step_any]
   rwa[e1,firstMet_succ,step_length]
  have kept:∀ c o,c≠b->s1.heap.get? c=some o->h2.get? c=some o:=λc o hc e=>(sb.2 c hc).trans e;refine Ym ⟨Oa xy _,ft W b LC val hv hn k (i+1) _ (by grind) Xe (W.frame _ s1 _ _ JW (Uq _) λc hc o e=>kept c o (λe'=>LC (e' ▸ hc)) e) hS3 λs2 m2 hS4=>?_⟩;exact q s2 (Moved.trans W.gtrans ((m.mono λc hc=>.tail _ hc).then_heap (Uq _) λc o hc e=>kept c o (λe'=>hc (e' ▸ .head _)) e) m2) hS4
end
section
variable{prog:Program}{w:World}{A:Around}{E:Ae}{s:Shared}
def LB (w:World):Obj:={ cls:=.type "set",dict:=none,data:=.set #[] 0 (.fresh 0 0 (!w.params.followText "set-order")) }
theorem qP(a:Value){Q:Ae}(k:Q (.ref s.heap.objs.size) { s with heap:=s.heap.push (LB w) }) :
  codeAny (model prog w) A (.call (.builtin "set.__new__") ⟨[.type "set",a],[]⟩) (wants Q E) s:=by
 refine codeAny_of_tree ?_;show wpAny _ A.in1 (checkBuiltinCall "set.__new__" ⟨[.type "set",a],[]⟩ >>= λ_=>again (.builtin "set.__new__" ⟨[.type "set",a],[]⟩)) _ _ s
 refine XT (NW (F.newCall_set_1 a) (Ym ⟨Oa F.plain_set_new _,Ra F.entry_set_new ?_⟩));rw[La F.plain_set_new _];have Ep:=sub_set_self
 unfold Builtin.«set.__new__» Builtin.Frozenset.newClass;obtain⟨hp,g,d,tk,os⟩:=s;dsimp only
 wp_walk
 refine HZ (Ym ?_);simp only [newObj];refine XT (wpAny_alloc (Ym (Ym k)))
theorem qO (e:h.get? a=some (LB w)):SetR prog w h a (!w.params.followText "set-order") (λz=>(firstMet (λ_=>0) 0).any (· == z)) 0:=by refine⟨_,#[],0,_,e,⟨rfl,rfl,rfl⟩,rfl,λy hy=>(by cases hy),λz=>⟨λq=>(by cases q),λ⟨y,hy,_⟩=>(by cases hy)⟩,by decide,by simp[SetTable.fits,SetTable.fresh,SetTable.fill],rfl,.nil,rfl⟩
theorem DK{h0:Heap}{Q:Ae}(hh:A.handled=none)(Nf:h0.get? b=some (LB w))(hl:h0.IsList l items)(XH:l≠b)(hi:IntsAre items.toList ns)(hn:items.size+1<scanBound)
  (k:∀ h' tk,SetR prog w h' b (!w.params.followText "set-order") (λz=>(firstMet (λi=>ns.getD i 0) items.size).any (· == z)) (firstMet (λi=>ns.getD i 0) items.size).length->(∀ c o,c≠b->h0.get? c=some o->h'.get? c=some o)->Q .none { s with heap:=h',toks:=tk }) :
  wpAny (model prog w) A.in1 (Builtin.«set.__init__» ⟨[.ref b,.ref l],[]⟩) (λfin s'=>match fin with | .done f=>wants Q E (.ok f) s' | .again c'=>c'.quiet=true/\codeAny (model prog w) A c' (wants Q E) s') (λe s'=>wants Q E (.error e) s') { s with heap:=h0 }:=by
 have hT:Shared.TypeIs { s with heap:=h0 } (.ref b) "set":=⟨_,Nf,rfl⟩;have QS:=hl
 obtain⟨⟨ocls,fq,fo,qN⟩,QV,Pw,nl,qM⟩:=hl;simp only at Pw qM;subst Pw qM;have q1:=F.sub_list_set
 have q2:=F.sub_list_frozenset;have q3:(Value.type "list" == Value.type "dict")=false:=by decide
 unfold LB at Nf;unfold Builtin.«set.__init__» noKeywords Builtin.Frozenset.updateFrom;generalize hPI:pyIter=PI
 wp_walk
 subst hPI;refine Aw QS ?_;refine XT (wpAny_runValue ?_);have qL:l<h0.objs.size:=Yq QV
 have ltb:b<h0.objs.size:=Yq Nf;have bf:b∉[h0.objs.size,l]:=λq=>by
  rcases Yh.mp q with e | e
  .exact Yz ltb e
  .exact XH (XC.mp e).symm
 refine ft ((Walks.list (A:=A.in1.in1) (by simp [hh]) _ l (Yz qL) items).toS) b bf (led:=!w.params.followText "set-order") (λi=>ns.getD i 0) (λi v hv=>IntsAre.int_at hi i v (by rw [YS];exact hv)) hn (items.size - 0) 0 _ (by lia) (Yk _)
  ⟨⟨_,Yl _ rfl,rfl,rfl⟩,QS.push _⟩ ?_ ?_
 .exact qO (WZ _ Nf)
 .rintro⟨h',g',d',tk',vG⟩ m hS;have e1:g'=s.gens:=m.gens
  have e2:d'=s.drawn:=m.drawn;have e3:vG=s.os:=m.os
  subst e1 e2 e3;show wpAny _ _ _ _ _ _
  refine Ym ?_;show wpAny _ _ (ret Value.none) _ _ _
  refine Ym (k h' tk' hS λc o hc e=>m.heap c o (λq=>?_) (WZ _ e));rcases Yh.mp q with e' | e'
  .exact hc e'
  .exact Yz (Yq e) (XC.mp e')
set_option maxRecDepth 100000 in
set_option maxHeartbeats 3000000 in
theorem qK{Q:Ae}(hh:A.handled=none)(hl:s.heap.IsList l items)(hi:IntsAre items.toList ns)(hn:items.size+1<scanBound)
  (k:∀ h' tk,SetR prog w h' s.heap.objs.size (!w.params.followText "set-order") (λz=>(firstMet (λi=>ns.getD i 0) items.size).any (· == z)) (firstMet (λi=>ns.getD i 0) items.size).length->(∀ c o,s.heap.get? c=some o->h'.get? c=some o)->Q (.ref s.heap.objs.size) { s with heap:=h',toks:=tk }) :
  wpAny (model prog w) A (call (.type "set") [.ref l]) Q E s:=by
 obtain⟨c,tl,hmro⟩:=Ml.mro;have a1:=Ml.made
 have a2:=Ml.sub;have a3:=Ml.notType
 have a4:=Ml.canCreate;have a5:=F.typeCall_set_1 (.ref l)
 refine Gr (codeAny_of_tree ?_);show wpAny _ _ (callAny (.type "set") _) _ _ _
 refine Ym ⟨KA _ (by decide +kernel),Ra F.entry_type_call ?_⟩;rw [Around.under_plain (weight_type_call_type "set" [.ref l] []) rfl]
 repeat any_goals first | assumption | wp_step
 refine KR (qP (.ref l) (E:=E) (Q:=λob s1=>ob=.ref s.heap.objs.size/\s1={ s with heap:=s.heap.push (LB w) }) ⟨rfl,rfl⟩) λr s1 hr=>?_
 match r,hr with
 | .error e,hr=>exact hr
 | .ok (.ret ob),hr =>
  obtain⟨rfl,rfl⟩:=hr;have Nf:(s.heap.push (LB w)).get? s.heap.objs.size=some (LB w):=Yl _ rfl
  have hT:Shared.TypeIs { s with heap:=s.heap.push (LB w) } (.ref s.heap.objs.size) "set":=⟨_,Nf,rfl⟩;have a6:=Ml.init.lookup
  have a7:=Ml.init.bind (.ref s.heap.objs.size)
  repeat any_goals first | assumption | wp_step
  have qL:l<s.heap.objs.size:=let ⟨_,e,_⟩:=hl;Yq e
  refine KR (codeAny_call_builtin (R:=wants (λr s2=>r=.none/\Q (.ref s.heap.objs.size) s2) E) Ml.init.plain F.entry_set_init (check_set_init_1 hT (DK (A:=_) (s:=s) ?_ Nf (hl.push _) (Yz qL) hi hn λh' tk hS kp=>⟨rfl,k h' tk hS λc o e=>kp c o (Yz (Yq e)) (WZ _ e)⟩))) λr2 s2 Vy=>?_
  .simp[hh]
  .match r2,Vy with
   | .error e,Vy=>exact Vy
   | .ok (.ret v),Vy =>
    obtain⟨rfl,q⟩:=Vy
    repeat any_goals first | assumption | wp_step
end
theorem fk:Manifest.owners.lookup (String.ofList ['r','o','t','a','r','e','t','i','_','t','e','s'].reverse)=some Manifest.sig_set_iterator:=by kernel_rfl
theorem Xb:PySem.Slot "set_iterator" "__next__" "set_iterator.__next__" :=
 .of (owner:="set_iterator") (n:="__next__") (by rw [HY,Ie];kernel_rfl) (by decide +kernel) (by decide +kernel) (by decide +kernel)
  (by first | exact .inl (by decide +kernel) | exact .inr (by decide +kernel)) (by rw[Am];kernel_rfl)
theorem yZ:entryFor table "set_iterator.__next__"=some Builtin.«set_iterator.__next__»:=entryFor_of_tree (by kernel_rfl)
theorem yY (a:Value):argsOk "set_iterator.__next__" ⟨[a],[]⟩:=by unfold argsOk;rw [signature?_of (id:="set_iterator.__next__") (n:=['_','_','t','x','e','n','_','_']) (o:=['r','o','t','a','r','e','t','i','_','t','e','s']) (by kernel_rfl) fk];kernel_rfl
theorem fj:PySem.Slot "set_iterator" "__iter__" "set_iterator.__iter__" :=
 .of (owner:="set_iterator") (n:="__iter__") (by rw [HY,Ie];kernel_rfl) (by decide +kernel) (by decide +kernel) (by decide +kernel)
  (by first | exact .inl (by decide +kernel) | exact .inr (by decide +kernel)) (by rw[Am];kernel_rfl)
theorem ZV9 (a:Value):argsOk "set_iterator.__iter__" ⟨[a],[]⟩:=by unfold argsOk;rw [signature?_of (id:="set_iterator.__iter__") (n:=['_','_','r','e','t','i','_','_']) (o:=['r','o','t','a','r','e','t','i','_','t','e','s']) (by kernel_rfl) fk];kernel_rfl
theorem ZU9:entryFor table "set_iterator.__iter__"=some Builtin.«dict_keyiterator.__iter__» :=
 entryFor_alias (id':="dict_keyiterator.__iter__") (by kernel_rfl) (by first | rfl | decide +kernel | (unfold String.splitOn;simp +decide [String.splitOnAux])) (by decide +kernel) (by kernel_rfl)
theorem ZO9:Manifest.owners.lookup (String.ofList ['t','e','s'].reverse)=some Manifest.sig_set:=by kernel_rfl
theorem fi:PySem.Slot "set" "__iter__" "set.__iter__" :=
 .of (owner:="set") (n:="__iter__") (by rw [HY,Ie];kernel_rfl) (by decide +kernel) (by decide +kernel) (by decide +kernel)
  (by first | exact .inl (by decide +kernel) | exact .inr (by decide +kernel)) (by rw[Am];kernel_rfl)
theorem ZQ9 (a:Value):argsOk "set.__iter__" ⟨[a],[]⟩:=by unfold argsOk;rw [signature?_of (id:="set.__iter__") (n:=['_','_','r','e','t','i','_','_']) (o:=['t','e','s']) (by kernel_rfl) ZO9];kernel_rfl
theorem ZP9:entryFor table "set.__iter__"=some Builtin.«frozenset.__iter__» :=
 entryFor_alias (id':="frozenset.__iter__") (by kernel_rfl) (by first | rfl | decide +kernel | (unfold String.splitOn;simp +decide [String.splitOnAux])) (by decide +kernel) (by kernel_rfl)
def IsSi (h:Heap) (I a:Addr) (f:Value) (i n ep:Nat):Prop:=∃ o,h.get? I=some o/\o.cls=.type "set_iterator"/\o.data=.fields #[f,rawInt (i:Int),.ref a,rawInt (n:Int),rawInt (ep:Int)]
theorem IsSi.ty {s:Shared} (x:IsSi s.heap I a f i n ep):s.TypeIs (.ref I) "set_iterator":=let ⟨o,p,q,_⟩:=x;⟨o,p,q⟩
theorem IsSi.keep(x:IsSi h I a f i n ep)(e:∀ o,h.get? I=some o->h'.get? I=some o):IsSi h' I a f i n ep:=let ⟨o,p,q⟩:=x;⟨o,e _ p,q⟩
def SetIs(h:Heap)(a:Addr)(es:Array (Int × Value))(ep:Nat)(t:SetTable):Prop:=∃ o,h.get? a=some o/\o.ExactSet/\o.data=.set es ep t
theorem SetIs.keep(x:SetIs h a es ep t)(e:∀ o,h.get? a=some o->h'.get? a=some o):SetIs h' a es ep t:=let ⟨o,p,q⟩:=x;⟨o,e _ p,q⟩
section
variable{prog:Program}{w:World}{A:Around}{E:Ae}{s:Shared}
theorem ZF7{Q:Nat->Shared->Prop}(hn:n≠0)(k:∀ i,i<n->∀ d,Q i { s with drawn:=d }):wpAny M A (choose src n) Q E s :=
 λΓ p _=>⟨hn,k _ (Nat.mod_lt _ (Nat.pos_of_ne_zero hn)) _⟩
theorem qJ{α:Type}:∀ {l:List α} {i:Nat} {y:α},l[i]?=some y->(y :: l.eraseIdx i).Perm l
 | [],_,_,h=>by simp at h
 | x :: l,0,y,h=>by obtain rfl:x=y:=Yi h;exact .rfl
 | x :: l,i+1,y,h=>(List.Perm.swap x y (l.eraseIdx i)).trans ((qJ (l:=l) (i:=i) h).cons x)
theorem fh{α:Type}:∀(n:Nat) (xs:List α) (s:Shared) (Q:List α->Shared->Prop),n=xs.length->(∀ ys d,ys.Perm xs->Q ys { s with drawn:=d })->wpAny M A (drawOrder n xs) Q E s
 | 0,xs,s,Q,h,k=>by have e:xs=[]:=YX.mp h.symm;subst e;exact Ym (k [] s.drawn .rfl)
 | n+1,[],s,Q,h,k=>by cases h
 | n+1,x :: xs,s,Q,h,k=>by show wpAny M A (choose .order (x :: xs).length >>= _) Q E s;refine XT (ZF7 (by simp) λi hi d=>?_);obtain⟨y,hy⟩:∃ y,(x :: xs)[i]?=some y:=⟨_,Xu hi⟩;rw[hy];dsimp only;refine XT (fh n ((x :: xs).eraseIdx i) _ _ (by rw[Gu hi];lia) λys d' hp=>Ym (k (y :: ys) d' ?_));exact(hp.cons y).trans (qJ hy)
theorem fg{α:Type}{f:Nat->Nat}:∀(n k:Nat) (l:List α) (out:Array α),n=l.length->(pickOrder.go f n k l out).toList.Perm (out.toList++l)
 | 0,k,l,out,h=>by rw[YX.mp h.symm,YE];exact .rfl
 | n+1,k,l,out,h=>by have hi:f k % l.length<l.length:=Nat.mod_lt _ (by lia);obtain⟨y,hy⟩:∃ y,l[f k % l.length]?=some y:=⟨_,Xu hi⟩;unfold pickOrder.go;rw[hy];dsimp only;refine(fg n (k+1) _ _ (by rw[Gu hi];lia)).trans ?_;rw[xA,Rc];refine List.Perm.append_left _ ?_;exact qJ hy
theorem ff{Q:Ae}(hr:IsSi s.heap I a f i n ep)(h:Q (.ref I) s):wpAny (model prog w) A (pyIter (.ref I)) Q E s:=by
 refine wpAny_pyIter_slot hr.ty fj (Mp fj hr.ty ZU9 ?_ (ZV9 _));show wpAny _ _ (ret (.ref I)) _ _ s
 exact Ym ⟨_,rfl,"set_iterator",_,hr.ty,Xb.lookup,h⟩
def RC(prog:Program)(w:World)(a:Addr)(es:Array (Int × Value))(ep:Nat)(t:SetTable)(ord:Ag)(sl:Nat->Nat):Prop :=
 ∀(A:Around) (E:Ae) (s:Shared) (i:Nat) (Q:Option (Value × Nat)->Shared->Prop),SetIs s.heap a es ep t->i<=ord.length->Q ((ord[i]?).map λx=>(x,sl (i+1))) s->wpAny (model prog w) A (setNext a (sl i) i ep) Q E s
theorem qI{sl:Nat->Nat}{i:Nat}{x:Value}{Q:Option Value->Shared->Prop}(hN:RC prog w a es ep t ord sl)(hS:SetIs s.heap a es ep t)(hf:t.fits es.size=true)(hi:IsSi s.heap I a (rawInt (sl i:Nat)) i es.size ep)(hx:ord[i]?=some x)
  (k:∀ h',IsSi h' I a (rawInt (sl (i+1):Nat)) (i+1) es.size ep->Heap.SameBut I s.heap h'->Q (some x) { s with heap:=h' }):wpAny (model prog w) A (pyNext (.ref I)) Q E s:=by
 obtain⟨o,ho,hc,hd⟩:=id hi;obtain⟨oa,Lz,qH,RB⟩:=id hS;unfold pyNext;refine XT (Gv (AF (name:=Str.ofString "__next__") hi.ty Xb (Mp Xb hi.ty yZ ?_ (yY _))));unfold Builtin.«set_iterator.__next__»;refine XT (NW (a:=(Value.ref I,[])) rfl ?_);dsimp only;refine XT (An ho hd ?_);dsimp only [rawInt];refine XT (GI Lz RB hf ?_);rw[if_neg (by simp)];rw[YH,YH,YH];refine XT (hN _ _ s i _ hS (NX (Xm.mp hx).1) ?_);rw[hx];dsimp only [Option.map_some];refine XT (HX ho hd (by simp) ?_);have Uk:=Vp (Obj.mapFields (λvs=>vs.setIfInBounds 0 (rawInt (sl (i+1):Nat)))) ho (AE (OR hd _))
 refine XT (HX Uk (OR hd _) (by simp) ?_);refine Ym ⟨x,rfl,Ym (k _ ⟨_,Vp _ Uk (AE (OR (OR hd _) _)),?_,?_⟩ ((Mu ..).trans (Mu ..)))⟩
 .rw[xm,xm];exact hc
 .rw[OR (OR hd _)];simp;rfl
theorem qG{sl:Nat->Nat}{Q:Option Value->Shared->Prop}(hh:A.handled=none)(hN:RC prog w a es ep t ord sl)(hS:SetIs s.heap a es ep t)(hf:t.fits es.size=true)(hi:IsSi s.heap I a (rawInt (sl ord.length:Nat)) ord.length es.size ep)
  (k:∀ h',Heap.ExtBut I s.heap h'->Q none { s with heap:=h' }):wpAny (model prog w) A (pyNext (.ref I)) Q E s:=by
 obtain⟨o,ho,hc,hd⟩:=id hi;obtain⟨oa,Lz,qH,RB⟩:=id hS;unfold pyNext;refine XT (Gv (AF (name:=Str.ofString "__next__") hi.ty Xb (Mp Xb hi.ty yZ ?_ (yY _))));unfold Builtin.«set_iterator.__next__»;refine XT (NW (a:=(Value.ref I,[])) rfl ?_);dsimp only;refine XT (An ho hd ?_);dsimp only [rawInt];refine XT (GI Lz RB hf ?_);rw[if_neg (by simp)];rw[YH,YH,YH];refine XT (hN _ _ s ord.length _ hS (XJ _) ?_);rw[Vq (XJ _)];dsimp only [Option.map_none];refine XT (HX ho hd (by simp) ?_);show wpAny _ _ (newExc (.type "StopIteration") [] >>= _) _ _ _
 refine XT ?_;simp only [newExc,newTuple];refine XT (Mr ?_ (by size_fits));refine XT (m:=firstArgMember _ _) (NW (a:=Value.none) (by first | rfl | (simp only [firstArgMember];rfl)) ?_)
 refine Mr ?_ (by size_fits);simp only [raiseNew];refine XT (wpAny_handled ?_);rw[show A.in1.handled=none from hh];refine XT (Ym (wpAny_throw ?_));refine XT (Ar (T:="StopIteration") (b:=true) ⟨_,Yl _ rfl,rfl⟩ isSubtype_stop ?_);exact Ym (k _ ((((Mu ..).extBut).push _).push _))
theorem ZT9{sl:Nat->Nat}(hh:A.handled=none)(hN:RC prog w a es ep t ord sl)(hf:t.fits es.size=true)(XH:a≠I) :
  Walks prog w A I [I,a] [I] ord.length (λi v=>ord[i]?=some v) (λi h=>i<=ord.length/\IsSi h I a (rawInt (sl i:Nat)) i es.size ep/\SetIs h a es ep t) where
 sub:=λb hb=>Yh.mpr (.inl (XC.mp hb))
 frame:=λ_ _ _ x hk=>⟨x.1,x.2.1.keep λo e=>hk I (by simp) o e,x.2.2.keep λo e=>hk a (by simp) o e⟩
 item:=λi s Q E hi ⟨_,x1,x2⟩ hQ=>by have hx:ord[i]?=some (ord[i]'hi):=Xu hi;exact qI hN x2 hf x1 hx λh' y hs=>hQ _ h' s.toks hx ⟨hi,y,x2.keep λo e=>(hs.2 a XH).trans e⟩ λb o hb eo=>hs.extBut b o (λe=>hb (by simp[e])) eo
 done:=λs Q E ⟨_,x1,x2⟩ hQ=>qG hh hN x2 hf x1 λh' he=>hQ h' s.toks λb o hb eo=>he b o (λe=>hb (by simp[e])) eo
 self:=λ_ _ _ _ x hQ=>ff x.2.1 hQ
theorem qF (hf:t.fits es.size=true) (hr:RE t) (hb:w.params.followText "set-order"=false) (hl:t.led=true) (hd:(!t.plain && decide (es.size > 1))=false) :
  RC prog w a es ep t (es.toList.map (·.2)) (λi=>if i=0 then 0 else (t.place.getD (i - 1) 0)+1):=by
 intro A E s i Q ⟨o,ho,hx,RB⟩ hi q;have hps:t.place.size=es.size:=by unfold SetTable.fits at hf;simp only [Ta,VT]at hf;exact hf.1
 rw[Ya,YB]at hi;unfold setNext;refine XT (Ia ho RB hf ?_);dsimp only;refine XT ?_;unfold setsByText;refine XT (HZ (Ym ?_));show wpAny _ _ (if (w.params.followText "set-order")=true then _ else _) _ _ _
 rw[if_neg (by rw[hb];decide)];show wpAny _ _ (if (!t.plain && decide (es.size > 1))=true then _ else _) _ _ _
 rw[if_neg (by rw[hd];decide)];refine XT ?_;show wpAny _ _ (if (!t.led && !es.isEmpty)=true then _ else _) _ _ _
 rw[if_neg (by rw[hl];simp)];refine Ym ?_;have eb:SetTable.below t.place (if i=0 then 0 else (t.place.getD (i - 1) 0)+1)=i:=by
  by_cases c:i=0
  .rw[if_pos c,c];exact ZI7 hr
  .rw[if_neg c];obtain⟨v,hv⟩:∃ v,t.place[i - 1]?=some v:=⟨_,YG (by lia)⟩;have e:t.place.getD (i - 1) 0=v:=by rw[YC,hv];rfl
   rw[e,ZJ7 hr hv];lia
 rw[eb];refine Ym ?_;by_cases c:i<es.size
 .obtain⟨v,hv⟩:∃ v,t.place[i]?=some v:=⟨_,YG (by lia)⟩;obtain⟨y,hy⟩:∃ y,es[i]?=some y:=⟨_,YG c⟩;have e:t.place.getD i 0=v:=by rw[YC,hv];rfl
  rw[Yn,YS,hy]at q;rw[hv,hy];simp only [xn,xD,e,if_neg (Nat.succ_ne_zero i)]at q;exact q
 .have e1:es[i]?=none:=Qy (by lia);rw[Yn,YS,e1]at q;rwa[e1]
theorem Zb8 (hf:t.fits es.size=true) (hb:w.params.followText "set-order"=true) :
  RC prog w a es ep t ((pickOrder (w.params.setOrder a ep) es).toList.map (·.2)) (λ_=>0):=by
 intro A E s i Q ⟨o,ho,hx,RB⟩ hi q;unfold setNext;refine XT (Ia ho RB hf ?_);dsimp only;refine XT ?_;unfold setsByText;refine XT (HZ (Ym ?_));show wpAny _ _ (if (w.params.followText "set-order")=true then _ else _) _ _ _
 rw[if_pos hb,if_neg (by simp)];refine XT ?_;unfold setWalk;refine XT (Ia ho RB hf ?_);dsimp only;refine XT ?_;unfold setsByText;refine XT (HZ (Ym ?_));show wpAny _ _ (if (w.params.followText "set-order")=true then _ else _) _ _ _
 rw[if_pos hb];refine XT (HZ (Ym ?_));rw[Yn,YS,Option.map_map]at q;exact Ym q
def IsPl(h:Heap)(b:Addr)(pl:List Nat):Prop:=∃ o n,h.get? b=some o/\o.data=.seq (pl.map λ(i:Nat)=>rawInt (i:Int)).toArray n
theorem IsPl.keep(x:IsPl h b pl)(e:∀ o,h.get? b=some o->h'.get? b=some o):IsPl h' b pl:=let ⟨o,n,p,q⟩:=x;⟨o,n,e _ p,q⟩
theorem qE{i j:Nat}{x:Int × Value}{Q:Option Value->Shared->Prop}(hS:SetIs s.heap a es ep t)(hf:t.fits es.size=true)(hi:IsSi s.heap I a (.ref b) i es.size ep)(hb:IsPl s.heap b pl)(hj:pl[i]?=some j)(hx:es[j]?=some x)
  (k:∀ h',IsSi h' I a (.ref b) (i+1) es.size ep->Heap.SameBut I s.heap h'->Q (some x.2) { s with heap:=h' }):wpAny (model prog w) A (pyNext (.ref I)) Q E s:=by
 obtain⟨o,ho,hc,hd⟩:=id hi;obtain⟨oa,Lz,qH,RB⟩:=id hS;obtain⟨ob,nb,Qd,RS⟩:=hb;unfold pyNext;refine XT (Gv (AF (name:=Str.ofString "__next__") hi.ty Xb (Mp Xb hi.ty yZ ?_ (yY _))));unfold Builtin.«set_iterator.__next__»;refine XT (NW (a:=(Value.ref I,[])) rfl ?_);dsimp only;refine XT (An ho hd ?_);dsimp only [rawInt];refine XT (GI Lz RB hf ?_);rw[if_neg (by simp)];refine XT (KU Qd RS ?_);dsimp only;have e:(pl.map λ(i:Nat)=>rawInt (i:Int)).toArray[(i:Int).toNat]?=some (.int (j:Int) 0):=by rw[YH,iV,Yn,hj];rfl
 rw[e];dsimp only;rw[YH,YH];refine XT ?_;unfold setNextDrawn;refine XT (Ia Lz RB hf ?_);dsimp only;rw[if_neg (by simp),hx];refine Ym ?_;refine XT (HX ho hd (by simp) ?_);refine Ym ⟨x.2,rfl,Ym (k _ ⟨_,Vp _ ho (AE (OR hd _)),?_,?_⟩ (Mu ..))⟩
 .rw[xm];exact hc
 .rw[OR hd];simp;rfl
theorem qD{Q:Option Value->Shared->Prop}(hh:A.handled=none)(hS:SetIs s.heap a es ep t)(hf:t.fits es.size=true)(hi:IsSi s.heap I a (.ref b) pl.length es.size ep)(hb:IsPl s.heap b pl)
  (k:∀ h',Heap.ExtBut I s.heap h'->Q none { s with heap:=h' }):wpAny (model prog w) A (pyNext (.ref I)) Q E s:=by
 obtain⟨o,ho,hc,hd⟩:=id hi;obtain⟨oa,Lz,qH,RB⟩:=id hS;obtain⟨ob,nb,Qd,RS⟩:=hb;unfold pyNext;refine XT (Gv (AF (name:=Str.ofString "__next__") hi.ty Xb (Mp Xb hi.ty yZ ?_ (yY _))));unfold Builtin.«set_iterator.__next__»;refine XT (NW (a:=(Value.ref I,[])) rfl ?_);dsimp only;refine XT (An ho hd ?_);dsimp only [rawInt];refine XT (GI Lz RB hf ?_);rw[if_neg (by simp)];refine XT (KU Qd RS ?_);dsimp only;have e:(pl.map λ(i:Nat)=>rawInt (i:Int)).toArray[(pl.length:Int).toNat]?=none:=by rw[YH,iV];exact Vq (by simp)
 rw[e];dsimp only;refine XT (HX ho hd (by simp) ?_);have Uk:=Vp (Obj.mapFields (λvs=>vs.setIfInBounds 0 (rawInt 0))) ho (AE (OR hd _))
 refine XT (HX Uk (OR hd _) (by simp) ?_);show wpAny _ _ (newExc (.type "StopIteration") [] >>= _) _ _ _
 refine XT ?_;simp only [newExc,newTuple];refine XT (Mr ?_ (by size_fits));refine XT (m:=firstArgMember _ _) (NW (a:=Value.none) (by first | rfl | (simp only [firstArgMember];rfl)) ?_)
 refine Mr ?_ (by size_fits);simp only [raiseNew];refine XT (wpAny_handled ?_);rw[show A.in1.handled=none from hh];refine XT (Ym (wpAny_throw ?_));refine XT (Ar (T:="StopIteration") (b:=true) ⟨_,Yl _ rfl,rfl⟩ isSubtype_stop ?_);exact Ym (k _ (((((Mu ..).trans (Mu ..)).extBut).push _).push _))
theorem ZY9(hh:A.handled=none)(hp:pl.Perm (List.range es.size))(hf:t.fits es.size=true)(XH:a≠I)(hnb:b≠I) :
  Walks prog w A I [I,a,b] [I] pl.length (λi v=>(pl.filterMap λj=>(es[j]?).map (·.2))[i]?=some v) (λi h=>i<=pl.length/\IsSi h I a (.ref b) i es.size ep/\SetIs h a es ep t/\IsPl h b pl) where
 sub:=λc hc=>Yh.mpr (.inl (XC.mp hc))
 frame:=λ_ _ _ x hk=>⟨x.1,x.2.1.keep λo e=>hk I (by simp) o e,x.2.2.1.keep λo e=>hk a (by simp) o e,x.2.2.2.keep λo e=>hk b (by simp) o e⟩
 item:=λi s Q E hi ⟨_,x1,x2,x3⟩ hQ=>by
  have hj:pl[i]?=some (pl[i]'hi):=Xu hi;have Xe:=YI.mp (hp.mem_iff.mp (Xi hj))
  have hx:es[pl[i]'hi]?=some (es[pl[i]'hi]'Xe):=YG Xe;have fm:∀(l:List Nat),(∀ j∈l,j<es.size)->l.filterMap (λj=>(es[j]?).map (·.2))=l.map λj=>(es.getD j (0,.none)).2:=λl hl=>by
   induction l with
   | nil=>rfl
   | cons y l ih =>
    have hy:=hl y Yc;rw[AD,WL,ih λj h=>hl j (Yf _ h),YG hy,YC,YG hy];rfl
  have hv:(pl.filterMap λj=>(es[j]?).map (·.2))[i]?=some (es[pl[i]'hi]'Xe).2:=by rw[fm pl λj hj=>YI.mp (hp.mem_iff.mp hj),Yn,hj,xn,YC,hx];rfl
  exact qE x2 hf x1 x3 hj hx λh' y hs=>hQ _ h' s.toks hv ⟨hi,y,x2.keep λo e=>(hs.2 a XH).trans e,x3.keep λo e=>(hs.2 b hnb).trans e⟩ λc o hc eo=>hs.extBut c o (λe=>hc (by simp[e])) eo
 done:=λs Q E ⟨_,x1,x2,x3⟩ hQ=>qD hh x2 hf x1 x3 λh' he=>hQ h' s.toks λc o hc eo=>he c o (λe=>hc (by simp[e])) eo
 self:=λ_ _ _ _ x hQ=>ff x.2.1 hQ
end
section
variable{prog:Program}{w:World}{A B:Around}{E:Ae}{s:Shared}
theorem SetIs.ty (x:SetIs s.heap a es ep t):s.TypeIs (.ref a) "set":=let ⟨o,p,q,_⟩:=x;⟨o,p,q.1⟩
theorem ZX9 {Q:Ae} (hh:A.handled=none) (hS:SetIs s.heap a es ep t) (hf:t.fits es.size=true) (hr:RE t) (hl:t.led=!w.params.followText "set-order") (hz:es.size<=sizeLine)
  (k:∀(I:Addr) (h':Heap) d (ord:Ag) (fp:List Addr) (St:Nat->Heap->Prop),ord.Perm (es.toList.map (·.2))->Walks prog w A I fp [I] ord.length (λi v=>ord[i]?=some v) St->St 0 h'->(∀ b∈fp,b<h'.objs.size/\(b=a\/s.heap.objs.size<=b))->I∈fp->s.heap.objs.size<=I->(∀ c o,s.heap.get? c=some o->h'.get? c=some o)->Q (.ref I) { s with heap:=h',drawn:=d }) :
  wpAny (model prog w) B (pyIter (.ref a)) Q E s:=by
 obtain⟨o,ho,hx,hd⟩:=id hS;have Ly:a<s.heap.objs.size:=Yq ho
 refine wpAny_pyIter_slot hS.ty fi (Mp fi hS.ty ZP9 ?_ (ZQ9 _));unfold Builtin.«frozenset.__iter__»;refine XT (NW (a:=a) rfl ?_);refine XT ?_;unfold Builtin.Frozenset.sizeOf;refine XT (GI ho hd hf (Ym ?_));refine XT ?_;unfold setDrawn;refine XT (Ia ho hd hf ?_);dsimp only;refine XT ?_;unfold setsByText;refine XT (HZ (Ym (Ym ?_)));have num:∀(ord:Ag) (sl:Nat->Nat),sl 0=0->RC prog w a es ep t ord sl->ord.Perm (es.toList.map (·.2))->wpAny (model prog w) B.in1 (pure (rawInt 0) >>= λfirst=>setEpoch a >>= λe=>newFields "set_iterator" [first,rawInt 0,.ref a,rawInt (es.size:Int),rawInt (e:Int)] >>= λit=>ret it)
   (λfin s'=>∃ v,fin=Fin.done (Flow.ret v)/\∃ T' r,s'.TypeIs v T'/\typeLookup (Value.type T') (Str.ofString "__next__")=pure (some r)/\Q v s') E s:=λord sl h0 hN hp=>by
  refine XT (Ym (XT (wpAny_setEpoch_of ho hd hf (XT ?_))));unfold newFields;refine Mr ?_ (by size_fits);have hI:IsSi (s.heap.push { cls:=.type "set_iterator",data:=.fields [rawInt 0,rawInt 0,.ref a,rawInt (es.size:Int),rawInt (ep:Int)].toArray }) s.heap.objs.size a (rawInt (sl 0:Nat)) 0 es.size ep:=⟨_,Yl _ rfl,rfl,by rw [h0];rfl⟩
  refine Ym ⟨_,rfl,"set_iterator",_,IsSi.ty (s:={ s with heap:=_ }) hI,Xb.lookup,?_⟩;have ne:a≠s.heap.objs.size:=Yz Ly
  refine k _ _ s.drawn ord _ _ hp (ZT9 hh hN hf ne) ⟨Yk _,hI,hS.keep λo e=>WZ _ e⟩ (λb hb=>?_) (by simp) (XJ _) λc o e=>WZ _ e;rw[UH];rcases Yh.mp hb with e | e
  .rw[e];exact⟨OP _,.inr (XJ _)⟩
  .rw[XC.mp e];exact⟨Ic Ly,.inl rfl⟩
 by_cases hb:w.params.followText "set-order"=true
 .rw [if_neg (by show ¬ (!w.params.followText "set-order" && _)=true;rw [hb];simp)];refine num _ (λ_=>0) rfl (Zb8 hf hb) ?_
  have:=fg (f:=w.params.setOrder a ep) es.size 0 es.toList #[] (by rw[YB])
  exact this.map _
 .have Qe:w.params.followText "set-order"=false:=by simpa using hb
  rw[Qe]at hl;by_cases c:(!t.plain && decide (es.size > 1))=true
  .rw [if_pos (by show(!w.params.followText "set-order" && (!t.plain && decide (es.size > 1)))=true;rw [Qe,c];rfl)];refine XT (fh es.size (List.range es.size) s _ (by rw[OQ]) λpl d hp=>?_);have UQ:pl.length=es.size:=by rw[hp.length_eq,OQ]
   refine XT (wpAny_newTuple ?_ (by rwa[Ya,UQ]));have hoS:∀(h:Heap) o,h.get? a=some o->(h.push { cls:=.type "tuple",data:=.seq (List.map (λi=>rawInt ((i:Nat):Int)) pl).toArray }).get? a=some o:=λh o e=>WZ _ e
   refine XT (wpAny_setEpoch_of (hoS s.heap o ho) hd hf (XT ?_));unfold newFields;refine Mr ?_ (by size_fits);have ne:a≠s.heap.objs.size:=Yz Ly
   generalize qC:s.heap.push { cls:=.type "tuple",data:=.seq (List.map (λi=>rawInt ((i:Nat):Int)) pl).toArray }=h1;have s1:h1.objs.size=s.heap.objs.size+1:=by rw[<- qC];exact UH ..
   have DJ:∀ c o,s.heap.get? c=some o->h1.get? c=some o:=λc o e=>by rw[<- qC];exact WZ _ e
   have Jw:IsPl h1 s.heap.objs.size pl:=by rw[<- qC];exact⟨_,0,Yl _ rfl,rfl⟩
   have hI:IsSi (h1.push { cls:=.type "set_iterator",data:=.fields [Value.ref s.heap.objs.size,rawInt 0,.ref a,rawInt (es.size:Int),rawInt (ep:Int)].toArray }) h1.objs.size a (.ref s.heap.objs.size) 0 es.size ep:=⟨_,Yl _ rfl,rfl,rfl⟩;refine Ym ⟨_,rfl,"set_iterator",_,IsSi.ty (s:={ s with heap:=_,drawn:=d }) hI,Xb.lookup,?_⟩;have Pu:(pl.filterMap λj=>(es[j]?).map (·.2)).Perm (es.toList.map (·.2)):=by refine(hp.filterMap _).trans ?_;rw[<- filterMap_getElem?_range es,List.map_filterMap]
   have QV:(pl.filterMap λj=>(es[j]?).map (·.2)).length=pl.length:=by rw[Pu.length_eq,Ya,YB,UQ]
   have W:=ZY9 (prog:=prog) (w:=w) (A:=A) (I:=h1.objs.size) (a:=a) (b:=s.heap.objs.size) (es:=es) (ep:=ep) (t:=t) hh hp hf (by rw[s1];exact Yz (Ic Ly)) (by rw[s1];exact Yz (OP _));rw[<- QV]at W;refine k _ _ d _ _ _ Pu W ⟨Yk _,hI,hS.keep λo e=>WZ _ (DJ _ o e),Jw.keep λo e=>WZ _ e⟩ (λb hb=>?_) (by simp) (by rw[s1];exact Uq _) λc o e=>WZ _ (DJ c o e);rw[UH,s1];rcases Yh.mp hb with e | e
   .rw[e,s1];exact⟨OP _,.inr (Uq _)⟩
   .rcases Yh.mp e with e | e
    .rw[e];exact⟨Ic (Ic Ly),.inl rfl⟩
    .rw[XC.mp e];exact⟨Ic (OP _),.inr (XJ _)⟩
  .have c':(!t.plain && decide (es.size > 1))=false:=by simpa using c
   rw [if_neg (by show ¬ (!w.params.followText "set-order" && (!t.plain && decide (es.size > 1)))=true;rw [c'];simp)];exact num _ _ rfl (qF hf hr Qe hl c') .rfl
end
theorem qB:typeLookup (.type "set") "__len__"=pure (some (.builtin "set.__len__")):=by rw [HY,Ie];kernel_rfl
section
variable{prog:Program}{w:World}{A:Around}{E:Ae}{s:Shared}
theorem qA {r:Addr} {Q:Bool->Shared->Prop} (hT:s.TypeIs (.ref r) "set") (h:Q false s):wpAny (model prog w) A (Builtin.List.listLengthHint (.ref r)) Q E s:=by
 unfold Builtin.List.listLengthHint;refine XT (wpAny_specialOf hT qB ?_);generalize EF:("set.__len__":String)=tG
 wp_delta
 rw [show splitId tG=some ("set","__len__") from by subst EF;decide +kernel];subst EF;refine XT (Ar (T:="set") (b:=true) hT sub_set_self ?_);show wpAny _ A (typeOf (Value.ref r) >>= _) _ _ _
 exact XT (z9 (T:="set") hT (Ym h))
theorem ZX5 {Q:List Value->Shared->Prop} (hh:A.handled=none) (hS:SetIs s.heap a es ep t) (hf:t.fits es.size=true) (hr:RE t) (hl:t.led=!w.params.followText "set-order") (hz:es.size<=sizeLine)
  (k:∀(out:Ag) h' tk d,out.Perm (es.toList.map (·.2))->s.heap.objs.size<=h'.objs.size->(∀ c o,s.heap.get? c=some o->h'.get? c=some o)->Q out { s with heap:=h',toks:=tk,drawn:=d }):wpAny (model prog w) A (collect (.ref a)) Q E s:=by
 have EA:(s.heap.push (seqObj "list" #[] 0)).get? s.heap.objs.size=some (seqObj "list" #[] 0):=Yl _ rfl;have DL:SetIs (s.heap.push (seqObj "list" #[] 0)) a es ep t:=hS.keep λo e=>WZ _ e
 have Ly:a<s.heap.objs.size:=let ⟨_,e,_⟩:=hS;Yq e
 unfold collect;refine XT (wpAny_runValue (Ra entry_proto_collect' ?_));show wpAny _ _ (newList [] >>= λv=>again (.builtin "list.__iadd__" ⟨[v,.ref a],[]⟩)) _ _ s
 refine XT (HS (Ym ⟨KA _ (by decide +kernel),Ra entry_list_iadd' ?_⟩));show wpAny _ _ (Builtin.List.listExtendWith (.ref s.heap.objs.size) (.ref a) (.ref s.heap.objs.size)) _ _ { s with heap:=s.heap.push (seqObj "list" #[] 0) }
 unfold Builtin.List.listExtendWith;refine XT (z9 (T:="set") (SetIs.ty (s:={ s with heap:=s.heap.push (seqObj "list" #[] 0) }) DL) ?_);have e1:Builtin.List.listSameRef (.ref s.heap.objs.size) (.ref a)=false:=by show(s.heap.objs.size == a)=false;exact xp (RY Ly)
 rw[if_neg (by rw[e1];decide)];refine XT (ZX9 (A:=A.in1) (by simp[hh]) DL hf hr hl hz λI h' d ord fp St Pu W Hw yX hI Pr kp=>?_);have zm:Shared.TypeIs { s with heap:=h',drawn:=d } (.ref a) "set":=SetIs.ty (s:={ s with heap:=h',drawn:=d }) (DL.keep λo e=>kp a o e)
 refine XT (Td (qA zm ?_));rw[if_pos (by decide +kernel)];have fe:=kp _ _ EA
 refine XT (Gs (XT ?_));unfold Builtin.List.listTouch;refine XT (KP (xs:=#[]) (n:=0) fe rfl ?_ (Yk _) (by show 1<=sizeLine+1;lia));have fc:=Vp (Obj.mapSeq (·.push Value.none)) fe rfl
 refine KP (xs:=#[].push Value.none) (n:=1) fc rfl ?_ (by show 1<=sizeLine;decide) (by show 0<=sizeLine+1;lia);have hL4:=Vp (Obj.mapSeq Array.pop) fc rfl
 have old:∀ c o,c≠s.heap.objs.size->h'.get? c=some o->((h'.update s.heap.objs.size (Obj.mapSeq (·.push Value.none))).update s.heap.objs.size (Obj.mapSeq Array.pop)).get? c=some o:=λc o hc e=>by rwa[QP _ _ (XG hc),QP _ _ (XG hc)]
 generalize (h'.update s.heap.objs.size (Obj.mapSeq (·.push Value.none))).update s.heap.objs.size (Obj.mapSeq Array.pop)=h4 at *;have SN:s.heap.objs.size∉fp:=λq=>by
  rcases(yX _ q).2 with e | e
  .exact RY Ly e
  .rw [show({ s with heap:=s.heap.push (seqObj "list" #[] 0) }:Shared).heap.objs.size=s.heap.objs.size+1 from UH ..] at e;exact Nat.not_succ_le_self _ e
 have qz:ord.length=es.size:=by rw[Pu.length_eq,Ya,YB]
 refine Ym ⟨Oa jj _,codeAny_extend_loopS W.toS (by rwa[qz]) s.heap.objs.size SN _ ord.length 0 _ #[] _ rfl (Yk _) (W.frame 0 _ _ Hw λb hb o e=>old b o (λq=>SN (q ▸ hb)) e) hL4 (ItemsOf.nil _) λs2 acc c m fb Uy=>?_⟩;have eo:acc.toList=ord:=by
  refine Ib λi=>?_;rw[YS];by_cases hi:i<ord.length
  .have q:acc[i]?=some (acc[i]'(by rwa[Uy.1])):=YG _;rw[q,Uy.2 i _ q]
  .rw[Vq (by grind),Qy (by rw[Uy.1];omega)]
 show wpAny _ A (load s.heap.objs.size >>= _) Q E s2;refine XT (wpAny_load fb ?_);refine Ym ?_;rw[eo,Moved.eq_with m];refine k ord s2.heap s2.toks d Pu (NX (Yq fb)) λc o e=>?_;have lt:=Yq e
 refine m.heap c o (λq=>?_) (old c o (Yz lt) (kp c o (WZ _ e)));rcases Yh.mp q with e' | e'
 .exact Yz lt e'
 .rw[XC.mp e']at lt
  have:=Yw lt (Yv (Uq _) (UH .. ▸ Pr))
  exact RZ _ this
end
theorem DI:∀ {l:Ac},m.Nodup->l.length=m.length->(∀ x∈m,x∈l)->l.Perm m:=by
 induction m with
 | nil=>intro l _ h _;rw[YX.mp h]
 | cons x m ih =>
  intro l hn hl hs;have hx:=hs x Yc
  have Qt:=Rb.mp hn;refine(List.perm_cons_erase hx).trans ((ih Qt.2 (by rw[xP hx,hl];rfl) λy hy=>?_).cons x);have ne:y≠x:=λe=>Qt.1 (by rwa[<- e])
  exact(xI ne).mpr (hs y (Yf _ hy))
theorem Zu8(p:us.Perm vs):∀ {ns:Ac},IntsAre vs ns->∃ ms,IntsAre us ms/\ms.Perm ns:=by
 induction p with
 | nil=>intro ns h;exact⟨ns,h,.rfl⟩
 | cons x _ ih =>
  intro ns h;cases h with
  | cons n t h =>
   obtain⟨ms,h1,h2⟩:=ih h;exact⟨n :: ms,.cons n t h1,h2.cons n⟩
 | swap x y l =>
  intro ns h;cases h with
  | cons n t h =>
   cases h with
   | cons m u h=>exact⟨m :: n :: _,.cons m u (.cons n t h),.swap n m _⟩
 | trans _ _ PK Th =>
  intro ns h;obtain⟨ms,h1,h2⟩:=Th h;obtain⟨ls,h3,h4⟩:=PK h1;exact⟨ls,h3,h4.trans h2⟩
theorem qy(h:IntsAre vs ns):vs.length=ns.length:=by
 induction h with
 | nil=>rfl
 | cons n t _ ih=>rw[Yt,Yt,ih]
theorem yV(val:Nat->Int):∀ i,(firstMet val i).Nodup
 | 0=>.nil
 | i+1=>by
  rw[firstMet_succ];unfold step_dedup;split
  .exact yV val i
  .rename_i h;refine Wr.mpr ⟨yV val i,by simp,λa ha b hb e=>?_⟩;rw[XC.mp hb]at e;exact h (GD.mpr ⟨a,ha,by rw[e];simp⟩)
section
variable{prog:Program}{w:World}{A:Around}{E:Ae}{s:Shared}
theorem e9:∀ {l:List (Int × Value)},ElemsOf (intKind prog w) l->∃ ms,IntsAre (l.map (·.2)) ms/\∀ z,z∈ms↔∃ y∈l,(intKind prog w).is z y.2=true
 | [],_=>⟨[],.nil,λz=>⟨λh=>(by cases h),λ⟨y,h,_⟩=>(by cases h)⟩⟩
 | y :: l,h=>by
  obtain⟨ms,h1,h2⟩:=e9 h.tail;obtain⟨⟨z,hz,_⟩,_⟩:=h.head;obtain⟨hy,v⟩:=y;obtain⟨u,rfl⟩:=Value.isInt_shape (show Value.isInt z v=true from hz);refine⟨z :: ms,.cons z u h1,λx=>?_⟩;rw[Yh,h2];constructor
  .rintro(e | ⟨y,hy,q⟩)
   .exact⟨_,Yc,e ▸ hz⟩
   .exact⟨y,Yf _ hy,q⟩
  .rintro⟨y,hy,q⟩;rcases Yh.mp hy with e | e
   .rw[e]at q;exact .inl ((intKind prog w).inj _ _ _ q hz)
   .exact .inr ⟨y,e,q⟩
theorem Zp6 {led:Bool} {S:Int->Bool} {Q:Ae} (hh:A.handled=none) (hS:SetR prog w s.heap a (!w.params.followText "set-order") S n) (QU:n<64)
  (k:∀(ms:Ac) (out:Ag) r h' tk d c,IntsAre out ms->ms.Pairwise (·<=·)->ms.length=n->(∀ z,z∈ms↔S z=true)->s.heap.objs.size<=r->h'.get? r=some (seqObj "list" out.toArray c)->(∀ c o,s.heap.get? c=some o->h'.get? c=some o)->Q (.ref r) { s with heap:=h',toks:=tk,drawn:=d }) :
  wpAny (model prog w) A (call (.builtin "sorted") [.ref a]) Q E s:=by
 obtain⟨o,es,ep,t,ho,hx,hd,he,hm,hb,hf,hn,hr,hl⟩:=hS;obtain⟨ns,hI,hmem⟩:=e9 he;have Ez:sizeLine=16777216:=Sx
 refine Calls.call_function_entry kind_sorted plain_sorted entry_sorted (args_sorted1 _) ?_;unfold Builtin.«sorted»;refine XT (m:=checkCount "sorted" 1 1 _) (Ym ?_);refine XT (ZX5 (A:=A.in1) (by simp[hh]) ⟨o,ho,hx,hd⟩ hf hr hl (by lia) λout h1 tk d hp Pr kp=>?_);obtain⟨ls,e8,Wg⟩:=Zu8 hp hI;have lo:=qy e8
 have ll:ls.length=n:=by rw[<- lo,hp.length_eq,Ya,YB,hn]
 refine XT (HS ?_);have hL:(h1.push (seqObj "list" out.toArray 0)).get? h1.objs.size=some (seqObj "list" out.toArray 0):=Yl _ rfl
 refine XT (Td (Mp slot_list_sort ⟨_,hL,rfl⟩ entry_list_sort (list_sort_tree hL e8 (by lia) λres ms b1 b2 b3=>⟨_,rfl,?_⟩) (args_list_sort _)));obtain⟨c,hc⟩:=sortedHeap_at (out:=res) hL;refine Ym ⟨_,rfl,k ms res.toList h1.objs.size _ tk d c b1 b3 (by rw[b2.length_eq,ll]) (λz=>by rw[b2.mem_iff,Wg.mem_iff,hmem,hm]) Pr (by rwa[Array.toArray_toList]) λb ob e=>?_⟩;have lt:=Yq (kp b ob e)
 rw[sortedHeap_old (Yz lt) (by rw[size_push'];exact Ic lt)];exact WZ _ (kp b ob e)
end
section
variable{X:Cx}{p p2 pos Vj:Pos}{e:Expr}{t:TA}
theorem Inv.drew(I:Inv X pins σ H s)(d:Drawn):Inv X pins σ H { s with drawn:=d } :=
 I.step (g':=s.gens) (d':=d) (t':=s.toks) (h':=s.heap) (ch:=[]) (λb hb=>(by cases hb)) (λb o _ _ _ q _=>q) (λb o _ _ _ q _=>⟨o.slots,q⟩) (λb o _ _ n=>n) (λb o _ q=>⟨o,q⟩) (λb xs q=>q) (λb o u q=>q) (λb ps q=>⟨#[],by rw[q];simp⟩) (λm hm=>hm) I.hok I.bare
def Zl6(K:Ad)(t:TA):TE:=λσ H Q=>t σ H λvs H1=>∃(a:Addr) (ns:Ac),vs=[.ref a]/\SqL K H1 a (ns.map V.int)/\ns.length<64/\∀ ms:Ac,ms.Pairwise (· < ·)->(∀ z,z∈ms↔z∈ns)->∀ l,H1 l=none->Q (.ref l) (upd H1 l (.lst (ms.map V.int)))
theorem Zg4 (K:Ad) (hc:X.calm=true) (g1:Gl X "sorted") (m1:X.mg "sorted"=none) (g2:Gl X "set") (m2:X.mg "set"=none) (ha:PA X [e] t) (hk:X.K=K:=by rfl)
  (he:starEach [e] X.env=[(false,eval e X.env)]:=by rfl)
  (Qb:starEach [.Call (.Name "set" p2) [e] [] Vj] X.env=[(false,eval (.Call (.Name "set" p2) [e] [] Vj) X.env)]:=by rfl) :
  PE X (.Call (.Name "sorted" p) [.Call (.Name "set" p2) [e] [] Vj] [] pos) (Zl6 K t):=by
 subst hk;intro pins s σ H Q I h;refine OS (QZ I g1 m1 Boot.«sorted» ?_);refine jm ?_ (by rw[Qb];rfl) rfl;rw[Qb];show wpAny _ _ (spliced ((false,eval (.Call (.Name "set" p2) [e] [] Vj) X.env) :: backTo pos [])) _ _ s
 refine Kz ?_;refine OS (QZ I g2 m2 Boot.«set» ?_);refine Uc (thn (ha Vj pins s σ H _ I h) λus s1 ⟨vs,H1,I1,r1,q1⟩=>?_) (by rw[he];rfl) rfl;obtain⟨a,ns,rfl,hq,hn,q⟩:=q1;obtain⟨u,rfl,ru⟩:=WJ r1;obtain rfl:u=Value.ref a:=ru;obtain⟨XW,rv,pl,hz⟩:=I1.list hq;have hi:=ZL rv
 have el:XW.toArray.size=ns.length:=by rw[Yb,<- rv.length,Ya]
 have sb:scanBound=4096:=rfl;refine qK (I.ok.hd hc) pl.isList (ns:=ns) (by simpa using hi) (by lia) λh2 tk hS kp=>?_;refine xh ?_;have fl:=firstMet_length_le (λi=>ns.getD i 0) XW.toArray.size
 refine Zp6 (led:=true) (s:={ s1 with heap:=h2,toks:=tk }) (I.ok.hd hc) hS (by lia) λms out r h3 tk3 d c hI hs hl hmem Pr hr kp3=>?_;have em:∀ z,z∈ms↔z∈ns:=λz=>by
  rw[hmem,firstMet_any,el];have e1:(List.range ns.length).map (λi=>ns.getD i 0)=ns:=by
   refine Ib λi=>?_;rw[Yn];by_cases c:i<ns.length
   .rw[xG c,Xu c,xn,WO,Xu c];rfl
   .rw[Vq (by rw[OQ];lia),Vq (by omega)];rfl
  rw[e1];simp
 have Ti:ms.Nodup:=(DI (yV _ _) hl λx hx=>(hmem x).mpr (GD.mpr ⟨x,hx,by simp⟩)).nodup_iff.mpr (yV _ _);have Xe:s1.heap.objs.size<=h2.objs.size:=let ⟨_,_,_,_,e,_⟩:=hS;NX (Yq e)
 have DH:s1.heap.objs.size<=r:=Yv Xe Pr;have Ov:ms.length<=ns.length:=by rwa[hl,<- el]
 have I2:=(I1.laid (o:=.lst (ms.map V.int)) (h':=h3) (t':=tk3) (λb o e=>kp3 b o (kp b o e)) DH ⟨by rw[Ya];have:sizeLine=16777216:=Sx;lia,out,c,PQ hI,hr⟩).drew d;exact⟨.ref r,_,I2,rfl,q ms (My.Vi hs Ti) em r (I1.hok.fresh DH)⟩
end
end L2
namespace My
open PySem L2
theorem Yz7{f g:Nat->Nat}{N k:Nat}(hf:∀ i j,i<N->j<N->(f i=f j↔Conn A i j))(hk:∀ i,i<N->f i<k)(hg:∀ a,a<k->g a<N/\f (g a)=a)(hA:InN N A)(hB:InN N B) :
  (∀ i j,i<N->j<N->Conn (A++B) i j)↔∀ a b,a<k->b<k->Conn (B.map λe=>(f e.1,f e.2)) a b:=by
 have gi:∀ i,i<N->Conn A (g (f i)) i:=λi hi=>by obtain⟨h1,h2⟩:=hg (f i) (hk i hi);exact(hf _ _ h1 hi).mp h2
 constructor
 .intro c a b ha hb;obtain⟨a1,a2⟩:=hg a ha;obtain⟨b1,b2⟩:=hg b hb;have q:=(c (g a) (g b) a1 b1).image (f:=f) (fs:=B.map λe=>(f e.1,f e.2)) λe he=>by
   rcases Xr.mp he with q | q
   .obtain⟨e1,e2⟩:=hA e q;rw[(hf _ _ e1 e2).mpr (.edge q)];exact .refl _
   .exact .edge (YD.mpr ⟨e,q,rfl⟩)
  rwa[a2,b2]at q
 .intro c i j hi hj;have up:∀ {i j:Nat},Conn A i j->Conn (A++B) i j:=λq=>q.mono λe he=>Ye _ he
  have q:=(c (f i) (f j) (hk i hi) (hk j hj)).image (f:=g) (fs:=A++B) λe he=>by obtain⟨d,hd,rfl⟩:=YD.mp he;obtain⟨d1,d2⟩:=hB d hd;exact(up (gi _ d1)).trans ((Conn.edge (Yg _ hd)).trans (up (gi _ d2)).symm)
  exact(up (gi i hi)).symm.trans (q.trans (up (gi j hj)))
def PC(n:Int)(ps:Aa)(I O:Ac)(c:Nat):Prop:=∃ L:Ab,L.Nodup/\(∀ l,l∈L↔Ze n ps l/\(∀ z∈I,z∈l)/\∀ z∈O,z∉l)/\L.length=c
theorem PC.uniq(h1:PC n ps I O c)(h2:PC n ps I O d):c=d:=by
 obtain⟨L,a1,a2,a3⟩:=h1;obtain⟨M,b1,b2,b3⟩:=h2
 have:L.Perm M:=(Le a1 b1).mpr λl=>by rw[a2,b2]
 rw[<- a3,<- b3,this.length_eq]
def XA(m:Nat)(gone:Ac):Ac:=(VP m).filter λz=>decide (z∉gone)
theorem WV{z:Int}:z∈XA m gone↔(0<=z/\z<(m:Int))/\z∉gone:=by unfold XA;rw[Yd,YM,Xk]
theorem eZ(m:Nat)(gone:Ac):(XA m gone).Pairwise (· < ·):=(XU.mp (zq m)).2.filter _
def TJ(f:Nat->Nat)(ps:Aa)(R:Ac):Aa:=R.map λz=>((f (Zx ps z).1:Int),(f (Zx ps z).2:Int))
def RA(R:Ac)(S:Ac):Ac:=S.map λt=>R.getD t.toNat 0
theorem qx(hR:R.Pairwise (· < ·))(hS:IsSet R.length S):(RA R S).Pairwise (· < ·):=by
 obtain⟨a1,a2⟩:=XU.mp hS;refine Mt.mpr (a2.imp_of_mem λ{a b} ha hb VJ=>?_);have h1:=a1 a ha
 have h2:=a1 b hb;rw[WO,WO,Xu (by lia),Xu (by lia)];exact Ik.mp hR a.toNat b.toNat (by omega) (by omega) (by grind)
theorem DG(hS:IsSet R.length S){z:Int}(h:z∈RA R S):z∈R:=by
 obtain⟨t,ht,rfl⟩:=YD.mp h;have h1:=hS.all t ht
 rw[WO,Xu (by lia)];exact Oc _
theorem DF{f:Nat->Nat}(hS:IsSet R.length S):XQ (TJ f ps R) S=(XQ ps (RA R S)).map λe=>(f e.1,f e.2):=by
 unfold XQ RA;rw[Mm,Mm];refine VU λt ht=>?_;have h1:=hS.all t ht
 have e:(TJ f ps R).getD t.toNat (0,0)=((f (Zx ps (R.getD t.toNat 0)).1:Int),(f (Zx ps (R.getD t.toNat 0)).2:Int)):=by unfold TJ;rw[WO,Yn,WO,Xu (by omega)];rfl
 rw[e];rfl
def Sl(m:Nat)(I R S:Ac):Ac:=(VP m).filter λz=>decide (z∈I\/z∈RA R S)
theorem qw(m:Nat)(I R S:Ac):(Sl m I R S).Pairwise (· < ·):=(XU.mp (zq m)).2.filter _
theorem WW{z:Int}:z∈Sl m I R S↔(0<=z/\z<(m:Int))/\(z∈I\/z∈RA R S):=by unfold Sl;rw[Yd,YM,Xk]
section
variable{n:Int}{ps:Aa}{I O S:Ac}{f g:Nat->Nat}{k:Nat}
theorem qv(hI:IsSet ps.length I)(hS:IsSet (XA ps.length (I++O)).length S):(Sl ps.length I (XA ps.length (I++O)) S).Perm (I++RA (XA ps.length (I++O)) S):=by
 have ua:=qx (eZ ps.length (I++O)) hS;refine(Le (JK (qw _ _ _ _)) (Wr.mpr ⟨hI.nodup,JK ua,λa ha b hb e=>?_⟩)).mpr λz=>?_
 .have:=(WV.mp (DG hS hb)).2
  exact this (Ye _ (e ▸ ha))
 .rw[WW,Xr];refine⟨λh=>h.2,λh=>⟨?_,h⟩⟩;rcases h with q | q
  .exact hI.all z q
  .exact(WV.mp (DG hS q)).1
theorem eY(g0:Zz n ps)(hI:IsSet ps.length I)(hf:∀ i j,i<n.toNat->j<n.toNat->(f i=f j↔Conn (XQ ps I) i j))(hk:∀ i,i<n.toNat->f i<k)(hg:∀ a,a<k->g a<n.toNat/\f (g a)=a)(hS:IsSet (XA ps.length (I++O)).length S) :
  ((∀ i j,i<n.toNat->j<n.toNat->Conn (XQ ps (Sl ps.length I (XA ps.length (I++O)) S)) i j)↔∀ a b,a<k->b<k->Conn (XQ (TJ f ps (XA ps.length (I++O))) S) a b):=by
 have hp:=qv (O:=O) hI hS;have hA:=ZT (ns:=I) g0 hI.all
 have hB:=ZT (ns:=RA (XA ps.length (I++O)) S) g0 λz hz=>(WV.mp (DG hS hz)).1;have e:XQ ps (I++RA (XA ps.length (I++O)) S)=XQ ps I++XQ ps (RA (XA ps.length (I++O)) S):=by unfold XQ;exact YJ
 rw[DF hS,<- Yz7 hf hk hg hA hB,<- e];exact⟨λc i j hi hj=>(Ux λz=>hp.mem_iff).mp (c i j hi hj),λc i j hi hj=>(Ux λz=>hp.mem_iff).mpr (c i j hi hj)⟩
theorem DE(hI:IsSet ps.length I)(hT:IsSet ps.length T)(h1:∀ z∈I,z∈T)(h2:∀ z∈O,z∉T):∃ S,IsSet (XA ps.length (I++O)).length S/\T=Sl ps.length I (XA ps.length (I++O)) S:=by
 refine⟨(VP (XA ps.length (I++O)).length).filter λt=>decide ((XA ps.length (I++O)).getD t.toNat 0∈T),XU.mpr ⟨λt ht=>Xk.mp (Yd.mp ht).1,(XU.mp (zq _)).2.filter _⟩,sP (XU.mp hT).2 (qw _ _ _ _) λz=>?_⟩;rw[WW];constructor
 .intro hz;refine⟨hT.all z hz,?_⟩;by_cases c:z∈I
  .exact .inl c
  .right;have hR:z∈XA ps.length (I++O):=WV.mpr ⟨hT.all z hz,λq=>by
    rcases Xr.mp q with q | q
    .exact c q
    .exact h2 z q hz⟩
   obtain⟨t,ht⟩:=QG hR;have e:(XA ps.length (I++O)).getD ((t:Int)).toNat 0=z:=by rw[YH];exact We ht
   refine YD.mpr ⟨(t:Int),Yd.mpr ⟨Xk.mpr ⟨by lia,by have:=(Xm.mp ht).1;omega⟩,Yr (by rwa[e])⟩,e⟩
 .rintro⟨_,q | q⟩
  .exact h1 z q
  .obtain⟨t,ht,rfl⟩:=YD.mp q;exact Yo (Yd.mp ht).2
theorem ZO8{S':Ac}(hS:IsSet (XA ps.length (I++O)).length S)(Tn:IsSet (XA ps.length (I++O)).length S')(e:Sl ps.length I (XA ps.length (I++O)) S=Sl ps.length I (XA ps.length (I++O)) S'):S=S':=by
 have key:∀ {A B:Ac},IsSet (XA ps.length (I++O)).length A->IsSet (XA ps.length (I++O)).length B->Sl ps.length I (XA ps.length (I++O)) A=Sl ps.length I (XA ps.length (I++O)) B->∀ t,t∈A->t∈B:=λ{A B} hA hB e t ht=>by
  have h1:=hA.all t ht;have hm:(XA ps.length (I++O)).getD t.toNat 0∈RA (XA ps.length (I++O)) A:=YD.mpr ⟨t,ht,rfl⟩
  have hR:=WV.mp (DG hA hm);have h2:(XA ps.length (I++O)).getD t.toNat 0∈Sl ps.length I (XA ps.length (I++O)) B:=e ▸ WW.mpr ⟨hR.1,.inr hm⟩
  rcases(WW.mp h2).2 with q | q
  .exact absurd (Ye _ q) hR.2
  .obtain⟨u,hu,e2⟩:=YD.mp q;have h3:=hB.all u hu
   rw[WO,WO,Xu (by lia),Xu (by lia)]at e2
   have:=Hz (JK (eZ ps.length (I++O))) (i:=u.toNat) (j:=t.toNat) (Xu (by omega)) (by rw[Xu (by omega)];exact Xx some e2.symm)
   have e3:u=t:=by lia
   exact e3 ▸ hu
 exact sP (XU.mp hS).2 (XU.mp Tn).2 λt=>⟨key hS Tn e t,key Tn hS e.symm t⟩
theorem yU(f:Nat->Nat)(ps:Aa)(R:Ac):(TJ f ps R).length=R.length:=Ya ..
theorem qu(g0:Zz n ps)(hI:IsSet ps.length I)(UN:∀ z∈I,z∉O)(hf:∀ i j,i<n.toNat->j<n.toNat->(f i=f j↔Conn (XQ ps I) i j))(hk:∀ i,i<n.toNat->f i<k)(hg:∀ a,a<k->g a<n.toNat/\f (g a)=a)(hn:(k:Int)+(I.length:Int)=n)(h:TC k (TJ f ps (XA ps.length (I++O))) c):PC n ps I O c:=by
 obtain⟨L,h1,h2,h3⟩:=h;have hs:∀ l∈L,IsSet (XA ps.length (I++O)).length l:=λl hl=>yU f ps _ ▸ ((h2 l).mp hl).1
 have len:∀ {S:Ac},IsSet (XA ps.length (I++O)).length S->(Sl ps.length I (XA ps.length (I++O)) S).length=I.length+S.length:=λ{S} hS=>by rw[(qv hI hS).length_eq,Xv];unfold RA;rw[Ya]
 have iff:∀ {S:Ac},IsSet (XA ps.length (I++O)).length S->(Ze n ps (Sl ps.length I (XA ps.length (I++O)) S)↔Ze k (TJ f ps (XA ps.length (I++O))) S):=λ{S} hS=>by
  have l:=len hS;have q:=eY (O:=O) g0 hI hf hk hg hS
  constructor
  .rintro⟨a1,a2,a3⟩;exact⟨by rw[yU];exact hS,by lia,λa b ha hb=>q.mp a3 a b (by lia) (by lia)⟩
  .rintro⟨a1,a2,a3⟩;exact⟨XU.mpr ⟨λz hz=>(WW.mp hz).1,qw _ _ _ _⟩,by lia,q.mpr λa b ha hb=>a3 a b (by lia) (by lia)⟩
 refine⟨L.map (Sl ps.length I (XA ps.length (I++O))),Mt.mpr (h1.imp_of_mem λ{a b} ha hb VJ e=>VJ (ZO8 (hs a ha) (hs b hb) e)),λT=>?_,by rw[Ya,h3]⟩;rw[YD];constructor
 .rintro⟨S,hS,rfl⟩;refine⟨(iff (hs S hS)).mpr ((h2 S).mp hS),λz hz=>WW.mpr ⟨hI.all z hz,.inl hz⟩,λz hz q=>?_⟩;rcases(WW.mp q).2 with q | q
  .exact UN z q hz
  .exact(WV.mp (DG (hs S hS) q)).2 (Yg _ hz)
 .rintro⟨hT,q1,q2⟩;obtain⟨S,hS,rfl⟩:=DE hI hT.1 q1 q2;exact⟨S,(h2 S).mpr ((iff hS).mp hT),rfl⟩
theorem eX(g0:Zz n ps)(gone:Ac)(hk:∀ i,i<n.toNat->f i<k)(k1:1<=k)(kn:k<=n.toNat):Zz k (TJ f ps (XA ps.length gone)):=by
 obtain⟨g1,g2,g3,g4⟩:=g0;refine⟨by lia,by lia,?_,λp hp=>?_⟩
 .rw[yU]
  have:(XA ps.length gone).length<=(VP ps.length).length:=YF ..
  have:=(zq ps.length).len
  lia
 .obtain⟨z,hz,rfl⟩:=YD.mp hp;have hz1:=(WV.mp hz).1
  obtain⟨q,hq⟩:∃ q,ps[z.toNat]?=some q:=⟨_,Xu (by lia)⟩;obtain⟨e1,e2,e3,e4⟩:=g4 q (Xi hq);have ee:Zx ps z=(q.1.toNat,q.2.toNat):=by unfold Zx;rw[We hq]
  rw[ee];have a:=hk q.1.toNat (by grind)
  have b:=hk q.2.toNat (by grind);exact⟨by show(0:Int)<=(f q.1.toNat:Int);lia,by show(f q.1.toNat:Int)<(k:Int);grind,by show(0:Int)<=(f q.2.toNat:Int);lia,by show(f q.2.toNat:Int)<(k:Int);grind⟩
theorem DD(g0:Zz n ps)(hI:IsSet ps.length I)(hf:∀ i j,i<n.toNat->j<n.toNat->(f i=f j↔Conn (XQ ps I) i j))(hk:∀ i,i<n.toNat->f i<k)(hg:∀ a,a<k->g a<n.toNat/\f (g a)=a)(k1:1<=k)(kn:k<=n.toNat)(hn:n<(k:Int)+(I.length:Int)):PC n ps I O 0:=by
 refine⟨[],.nil,λT=>⟨λh=>(by cases h),λ⟨hT,q1,q2⟩=>?_⟩,rfl⟩;obtain⟨S,hS,rfl⟩:=DE hI hT.1 q1 q2;have q:=(eY (O:=O) g0 hI hf hk hg hS).mp hT.2.2
 have gg:=eX (f:=f) g0 (I++O) hk k1 kn;have l:=DO gg (by rwa[yU]) λa b ha hb=>q a b (by grind) (by grind)
 have l2:=hT.2.1;rw[(qv hI hS).length_eq,Xv]at l2;unfold RA at l2;rw[Ya]at l2;omega
end
def Vg:Ac->Int->Nat
 | [],_=>0
 | x :: l,z=>if x=z then 0 else Vg l z+1
theorem Jv:∀ {l:Ac} {z:Int},z∈l->l[Vg l z]?=some z
 | x :: l,z,h=>by
  unfold Vg;by_cases c:x=z
  .rw[if_pos c,c];rfl
  .rw[if_neg c];exact Jv ((Yh.mp h).resolve_left λe=>c e.symm)
theorem qt(h:z∈l):Vg l z<l.length:=(Xm.mp (Jv h)).1
theorem qr(hz:z∈l)(hy:y∈l):Vg l z=Vg l y↔z=y:=by
 refine⟨λe=>?_,λe=>by rw[e]⟩;have h1:=Jv hz
 rw[e,Jv hy]at h1;exact(Yi h1).symm
theorem qq(hn:l.Nodup){i:Nat}{z:Int}(h:l[i]?=some z):Vg l z=i:=Hz hn (Jv (Xi h)) h
theorem DC(h:i<M.length):mk M i∈M:=by unfold mk;rw[WO,Xu h];exact Oc h
section
variable{N:Nat}{es:List (Nat × Nat)}{F:Ac}
theorem qp(h:InN N es)(hF:F.Pairwise (· < ·))(hm:∀ z,z∈F↔z∈Xs N es) :
  ∃ g:Nat->Nat,(∀ i j,i<N->j<N->(Vg F (mk (Xs N es) i)=Vg F (mk (Xs N es) j)↔Conn es i j))/\(∀ i,i<N->Vg F (mk (Xs N es) i)<F.length)/\∀ a,a<F.length->g a<N/\Vg F (mk (Xs N es) (g a))=a:=by
 have hl:=ZE N es;have qo:∀ i,i<N->mk (Xs N es) i∈F:=λi hi=>(hm _).mpr (DC (by lia))
 have ex:∀ a,∃ i,a<F.length->i<N/\Vg F (mk (Xs N es) i)=a:=λa=>by
  by_cases c:a<F.length
  .have q:=(hm _).mp (Oc c);obtain⟨i,hi⟩:=QG q;have VO:=(Xm.mp hi).1
   refine⟨i,λ_=>⟨by lia,?_⟩⟩;have e:mk (Xs N es) i=F[a]:=by unfold mk;exact We hi
   rw[e];exact qq (JK hF) (Xu c)
  .exact⟨0,λh=>absurd h c⟩
 refine⟨λa=>Classical.choose (ex a),λi j hi hj=>?_,λi hi=>qt (qo i hi),λa ha=>Classical.choose_spec (ex a) ha⟩;rw[qr (qo i hi) (qo j hj)];exact RL h hi hj
theorem qm:∀(i:Nat),∃ p,p<=i/\Wv M p=true/\mk M p=mk M i:=by
 intro i
 induction i using Nat.strongRecOn with
 | _ i ih =>
  by_cases c:Wv M i=true
  .exact⟨i,XJ _,c,rfl⟩
  .obtain⟨j,hj,e⟩:∃ j,j<i/\mk M j=mk M i:=Yx λno=>c (Xz.mpr λj hj e=>no ⟨j,hj,e⟩);obtain⟨p,h1,h2,h3⟩:=ih j hj;exact⟨p,by lia,h2,h3.trans e⟩
theorem ZA8(hF:F.Pairwise (· < ·))(hm:∀ z,z∈F↔z∈M):F.length=cnt M:=by
 have e:F.Perm ((VB M M.length).map (mk M)):=by
  refine(Le (JK hF) ?_).mpr λz=>?_
  .refine Mt.mpr ?_;unfold VB;refine(Qz.filter (Wv M)).imp_of_mem λ{a b} ha hb VJ=>?_;exact Xz.mp (Yd.mp hb).2 a VJ
  .rw[hm,YD];constructor
   .intro hz;obtain⟨i,hi⟩:=QG hz;have VO:=(Xm.mp hi).1
    obtain⟨p,h1,h2,h3⟩:=qm (M:=M) i;refine⟨p,Yd.mpr ⟨YI.mpr (by lia),h2⟩,h3.trans ?_⟩;unfold mk;exact We hi
   .rintro⟨p,hp,rfl⟩;exact DC (YI.mp (Yd.mp hp).1)
 rw[e.length_eq,Ya];rfl
theorem Zr4(h:InN N es)(hN:1<=N)(hF:F.Pairwise (· < ·))(hm:∀ z,z∈F↔z∈Xs N es):1<=F.length/\F.length<=N/\N<=F.length+es.length:=by
 have e:=ZA8 hF hm;have hl:=ZE N es
 have e2:=Eh (zD (n:=N) (es:=es) h);have e3:=zt es h
 have e4:=sZ (M:=Xs N es) (by lia);have e5:cnt (Xs N es)<=N:=by unfold cnt VB;refine Yv (YF ..) ?_;rw[OQ];lia
 grind
end
def FD(A B:Ac)(t:Int):Prop:=t∈A/\t∉B/\∀ s,s<t->(s∈A↔s∈B)
theorem ql:∀ {A B:Ac},A.Pairwise (· < ·)->B.Pairwise (· < ·)->A.length=B.length->(HT.lexLt A B=true↔∃ t,FD A B t)
 | [],[],_,_,_=>⟨λh=>(by cases h),λ⟨t,h,_⟩=>(by cases h)⟩
 | x :: A,y :: B,hA,hB,hl=>by
  obtain⟨a1,a2⟩:=YV.mp hA;obtain⟨b1,b2⟩:=YV.mp hB;have Qu:A.length=B.length:=NY hl
  show(if x=y then HT.lexLt A B else decide (x<y))=true↔_;by_cases c:x=y
  .subst c;rw[if_pos rfl,ql a2 b2 Qu];constructor
   .rintro⟨t,h1,h2,h3⟩;have tx:=a1 t h1
    refine⟨t,Yf _ h1,λq=>?_,λs hs=>?_⟩
    .rcases Yh.mp q with e | e
     .lia
     .exact h2 e
    .rw[Yh,Yh,h3 s hs]
   .rintro⟨t,h1,h2,h3⟩;have tx:t≠x:=λe=>h2 (e ▸ Yc)
    have Hl:=(Yh.mp h1).resolve_left tx;refine⟨t,Hl,λq=>h2 (Yf _ q),λs hs=>?_⟩
    have:=h3 s hs
    rw[Yh,Yh]at this;by_cases e:s=x
    .rw[e];exact⟨λq=>absurd (a1 x q) (Int.lt_irrefl x),λq=>absurd (b1 x q) (Int.lt_irrefl x)⟩
    .exact⟨λq=>(this.mp (.inr q)).resolve_left e,λq=>(this.mpr (.inr q)).resolve_left e⟩
  .rw[if_neg c,YM];constructor
   .intro h;refine⟨x,Yc,λq=>?_,λs hs=>⟨λq=>?_,λq=>?_⟩⟩
    .rcases Yh.mp q with e | e
     .exact c e
     .have:=b1 x e;lia
    .rcases Yh.mp q with e | e
     .lia
     .have:=a1 s e;lia
    .rcases Yh.mp q with e | e
     .lia
     .have:=b1 s e;lia
   .rintro⟨t,h1,h2,h3⟩;have tx:x<=t:=by
     rcases Yh.mp h1 with e | e
     .lia
     .have:=a1 t e;lia
    refine Yx λhc=>?_;have hyx:y<x:=by lia
    have:=(h3 y (by grind)).mpr Yc
    rcases Yh.mp this with e | e
    .lia
    .have:=a1 y e;grind
theorem eW{α:Type}[DecidableEq α]:∀ {l m:List α},l.Nodup->(∀ x∈l,x∈m)->l.length<=m.length
 | [],_,_,_=>Yk _
 | x :: l,m,hn,hs=>by
  have hx:=hs x Yc;obtain⟨h1,h2⟩:=Rb.mp hn
  have:=eW (m:=m.erase x) h2 λy hy=>(xI λe=>h1 (by rwa[<- e])).mpr (hs y (Yf _ hy))
  rw[xP hx]at this
  have:=Ij hx
  rw[Yt];grind
end My
namespace L2
open PySem PySem.Spec PyProof.Rows
section
variable{X:Cx}
theorem ZK8:VM X (.builtin "abs") (λxs H Q=>∃ z:Int,xs=[.int z]/\Q (.int (if z<0 then -z else z)) H):=by intro pins s σ H xs us Q I r h;obtain⟨z,rfl,q⟩:=h;obtain⟨u,rfl,ru⟩:=WJ r;obtain⟨t,rfl⟩:=ru;exact call_abs_int λu tk=>⟨.int (if z<0 then -z else z),H,I.tok tk,⟨u,rfl⟩,q⟩
end
end L2
namespace My
open PySem L2
theorem qk{s rest:TS}{D:Ends}{σ:L2.St}{H:Hp}(P:L2.St->Hp->Prop)(h1:∀ σ' H',P σ' H'->rest D σ' H')(h2:∀ K:L2.St->Hp->Prop,(∀ σ' H',P σ' H'->K σ' H')->s { D with nx:=K } σ H):UG s rest D σ H:=h2 _ h1
theorem eV{m:Nat}(hm:m<=30):∀ k,(PL (m:Int) k).length<=30 ^ k
 | 0=>XJ 1
 | k+1=>by
  have h1:=gx (m:=m) (PL (m:Int) k) λs hs=>(VZ.mp hs).2;have h2:=eV hm k
  have h3:m * (PL (m:Int) k).length<=30 * 30 ^ k:=KW hm h2;rw[Nat.pow_succ,Ak];exact Yv h1 h3
theorem eS(g:Zz n ps)(h:TC n ps c):c<10 ^ 20:=by
 obtain⟨L,hn,hm,rfl⟩:=h;obtain⟨g1,g2,g3,_⟩:=g;refine AB (m:=30 ^ 13) (Yv (eW (m:=PL (ps.length:Int) (n - 1).toNat) hn λx hx=>VZ.mpr ⟨?_,((hm x).mp hx).1⟩) (Yv (eV (by lia) _) (xK (by decide) (by omega)))) (by decide)
 have:=((hm x).mp hx).2.1
 lia
theorem qj(g:Zz n ps):∃ L:Ab,(∀ l,l∈L↔Ze n ps l)/\L.Pairwise Nk:=⟨Up n.toNat ps (n - 1).toNat,λ_=>sI g,(gn _ _).filter _⟩
def ev(b:Int):Ac->Int
 | []=>0
 | d :: l=>d+b * ev b l
abbrev Ju(ls:Ac)(z:Int):Int:=ls.getD z.toNat 0
def lwS(ls:Ac)(x:Int):Ac:=(VP ls.length).filter λz=>decide (Ju ls z<x)
def mA(N:Nat)(ps:Aa)(ls:Ac)(x:Int):Ac:=Xs N (XQ ps (lwS ls x))
def lvl(ls:Ac)(x:Int)(i:Nat):Ac:=(VP i).filter λz=>decide (Ju ls z=x)
def DB(ls T:Ac):Int:=(T.map (Ju ls)).sum
section
variable{n:Int}{ps:Aa}{T:Ac}(g:Zz n ps)
include g
theorem ZI9(hT:Ze n ps T)(hW:Ze n ps W)(h:∀ z∈T,z∈W):T.Perm W:=by
 have:=DI (l:=W) hT.1.nodup (by have:=hT.2.1;have:=hW.2.1;lia) h
 exact this.symm
end
theorem WP.wk(g:Zz n ps)(LW:Ze n ps T0)(h:WP n ps W T0 l ws T):Wk n ps T0 ws T:=by
 induction h with
 | nil=>exact .nil
 | skip _ _ ih=>exact ih
 | step _ h2 h3 h4 h5 h6 h7 ih =>
  obtain⟨r1,r2⟩:=Xl.mp h3;exact Wk.step ih ⟨r1,λe=>h2 (e ▸ r1),r2⟩ h6 h7
theorem eR(hT:Ze n ps T)(hW:Ze n ps W):(T.filter λy=>decide (y∉W)).length=(W.filter λy=>decide (y∉T)).length:=by
 have e1:=gf (λy=>decide (y∈W)) T;have e2:=gf (λy=>decide (y∈T)) W
 have p:(T.filter λy=>decide (y∈W)).Perm (W.filter λy=>decide (y∈T)):=(Le (hT.1.nodup.filter _) (hW.1.nodup.filter _)).mpr λy=>by rw[Yd,Yd,YM,YM];exact And.comm
 have f1:(T.filter λy=>decide (y∉W))=T.filter λy=>!decide (y∈W):=Ms λy _=>by simp
 have f2:(W.filter λy=>decide (y∉T))=W.filter λy=>!decide (y∈T):=Ms λy _=>by simp
 have:=p.length_eq
 have h1:=hT.2.1;have h2:=hW.2.1
 rw[f1,f2];lia
theorem Wk.at(h:Wk n ps T0 ws U):∀(i:Nat) (o z:Int),ws[i]?=some (o,z)->∃ T,Wk n ps T0 (ws.take i) T/\exg n ps T o z:=by
 induction h with
 | nil=>intro i o z e;simp at e
 | @step ws T T' o z k1 k2 k3 k4 ih =>
  intro i o' z' e;by_cases c:i<ws.length
  .rw[Yu c]at e;rw[GO (by lia)];exact ih i o' z' e
  .have hi:=(Xm.mp e).1;rw[Xv]at hi;have hi:i=ws.length:=by have:[(o,z)].length=1:=rfl;lia
   subst hi;rw[Ys (XJ _),QE]at e;cases e;rw[GO (XJ _),YA];exact⟨T,k1,k2⟩
theorem Wk.whole(h:Wk n ps T0 ws U):¬ gj n ps T0 ws:=λ⟨i,o,z,V,e,hV,To⟩=>by obtain⟨T,hT,hx⟩:=h.at i o z e;rw[hT.uniq hV]at hx;exact To hx
theorem Wk.bnd(g:Zz n ps)(hT:Ze n ps T0)(h:Wk n ps T0 ws U):∀ p∈ws,0<=p.1/\p.1<(ps.length:Int)/\0<=p.2/\p.2<(ps.length:Int):=λp hp=>by
 obtain⟨i,hi⟩:=QG hp;obtain⟨T,h1,h2⟩:=h.at i p.1 p.2 hi;have eQ:=h1.tree g hT
 obtain⟨a,_,c,d,_⟩:=(LP g eQ).mp h2
 have:=eQ.1.all p.1 a
 exact⟨this.1,this.2,c,d⟩
end My
namespace HT
open PySem PyProof.Rows
section
def ltP(x y:Int × Ac):Bool:=decide (x.1<y.1) || (decide (x.1=y.1) && lexLt x.2 y.2)
end
end HT
namespace My
open PySem L2
section
variable{one d0 d1:Int}{other:Option Int}
def ix(one:Int)(other:Option Int)(d0 d1 y:Int):Int:=if y=one then d0 else if some y=other then d1 else y
end
end My
namespace L2
open PySem PySem.Spec PyProof.Rows
def TL(l:List Str):List V:=l.map V.str
theorem eO:∀ {l:List Str} {us:Ag},Vals (TL l) us->∃ k:List (Str × Tok),us=strValues k/\k.map (λx=>x.fst)=l
 | [],_,.nil=>⟨[],rfl,rfl⟩
 | x :: l,_,.cons r t=>by obtain⟨tk,rfl⟩:=r;obtain⟨k,rfl,h⟩:=eO (l:=l) t;exact⟨(x,tk) :: k,rfl,by rw[WL,h]⟩
section
variable{X:Cx}
def qi(K:Ad):V->List V->Hp->VK->Prop:=λx vs H Q=>∃(sep:Str) (a:Addr) (l:List Str),x=.str sep/\vs=[.ref a]/\SqL K H a (TL l)/\JoinOk sep l=true/\Q (.str (sep.join l)) H
theorem eN (K:Ad) (h:X.K=K:=by rfl):NC X "str.join" (qi K):=by subst h;intro pins s σ H x vs v us Q I rx rv h;obtain⟨sep,a,l,rfl,rfl,hq,hj,q⟩:=h;obtain⟨tk,rfl⟩:=rx;obtain⟨u,rfl,ru⟩:=rv.one;cases ru;obtain⟨XW,r,pl,hz⟩:=I.list hq;obtain⟨k,rfl,hk⟩:=eO r;refine PySem.SC.join pl.isList hk hj λt' n=>⟨.str _,H,I.tok n,⟨t',rfl⟩,?_⟩;rwa[show Txt.join sep l=sep.join l from PySem.StrLaws.glued_eq_join sep l]
theorem yS:VM X (.type "str") (λxs H Q=>∃ i:Int,xs=[.int i]/\-(10 ^ 70)<i/\i<10 ^ 70/\Q (.str (Str.ofString (toString i))) H):=by intro pins s σ H xs us Q I r h;obtain⟨i,rfl,h1,h2,q⟩:=h;exact aG pins s σ H _ us Q I r ⟨i,rfl,Zk8 h1 h2,q⟩
end
theorem eM:∀(l:List Str) (n:Nat),Vals (TL l) (strsFrom n l)
 | [],_=>.nil
 | _ :: l,n=>.cons ⟨n,rfl⟩ (eM l (n+1))
section
variable{X:Cx}
def qh:V->List V->Hp->VK->Prop:=λx vs H Q=>∃(z y:Str),x=.str z/\vs=[.str y]/\(y.length == 0)=false/\z.length<=sizeLine/\(Txt.split z y).length<=sizeLine/\∀ p,H p=none->Q (.ref p) (upd H p (.lst (TL (Txt.split z y))))
theorem eK:NC X "str.split" qh:=by
 intro pins s σ H x vs v us Q I rx rv h;obtain⟨z,y,rfl,rfl,hy,hz,hl,q⟩:=h;obtain⟨t,rfl⟩:=rx;obtain⟨u,rfl,ru⟩:=rv.one;obtain⟨u',rfl⟩:=ru;have self:Txt.split z y=[z]->EP X pins σ Q (.ref s.heap.objs.size) { s with heap:=s.heap.push { cls:=.type "list",data:=.seq #[.str z t] } }:=λe=>by rw[e]at q;refine⟨.ref s.heap.objs.size,_,I.laid (t':=s.toks) (o:=.lst (TL [z])) (λb ob q=>WZ _ q) (XJ _) ?_,rfl,q _ (I.hok.fresh (XJ _))⟩;exact⟨by rw[e]at hl;exact hl,[.str z t],0,.cons ⟨t,rfl⟩ .nil,Yl _ rfl⟩
 by_cases c1:(decide (z.length<y.length) || decide (Builtin.Str.strKind z<Builtin.Str.strKind y))=true
 .have e:Txt.split z y=[z]:=by unfold Txt.split;rw[if_pos c1]
  exact NV QB (HP _ _ _) KN (xR _ _) (meets_str_split_cannot_occur z y t u' c1) (self e)
 .have eJ:=NS.mpr c1;by_cases c2:(Builtin.Str.occurrences z y 0 z.length (z.length+1)).isEmpty=true
  .have e:Txt.split z y=[z]:=by unfold Txt.split;rw[if_neg c1,if_pos c2]
   exact NV QB (HP _ _ _) KN (xR _ _) (meets_str_split_not_found z y t u' eJ hy c2) (self e)
  .have e:Txt.split z y=Builtin.Str.partsBetween z (Builtin.Str.occurrences z y 0 z.length (z.length+1)) y.length:=by unfold Txt.split;rw[if_neg c1,if_neg c2]
   rw[e]at hl q;refine NV QB (HP _ _ _) KN (xR _ _) (meets_str_split_sep z y t u' eJ hy (NS.mpr c2) hz hl) ?_;refine⟨.ref s.heap.objs.size,_,I.laid (o:=.lst (TL (Builtin.Str.partsBetween z (Builtin.Str.occurrences z y 0 z.length (z.length+1)) y.length))) (λb ob q=>WZ _ q) (XJ _) ?_,rfl,q _ (I.hok.fresh (XJ _))⟩;exact⟨by unfold TL;rw[Ya];exact hl,_,0,eM _ _,Yl _ rfl⟩
def qg:V->List V->Hp->VK->Prop:=λx vs H Q=>∃(z y:Str),x=.str z/\vs=[.str y]/\Q (.bl (Txt.startswith z y)) H
theorem Zd8:NC X "str.startswith" qg:=by intro pins s σ H x vs v us Q I rx rv h;obtain⟨z,y,rfl,rfl,q⟩:=h;obtain⟨t,rfl⟩:=rx;obtain⟨u,rfl,ru⟩:=rv.one;obtain⟨u',rfl⟩:=ru;exact PySem.SC.startswith ⟨.bl _,H,I,rfl,q⟩
theorem ZI8:VM X (.type "int") (λxs H Q=>∃(z:Str) (n:Int),xs=[.str z]/\intText? z=some n/\z.length<=640/\Q (.int n) H):=by intro pins s σ H xs us Q I r h;obtain⟨z,n,rfl,hz,hl,q⟩:=h;obtain⟨u,rfl,ru⟩:=WJ r;obtain⟨t,rfl⟩:=ru;exact PySem.W.KIN.call_text hz hl ⟨.int n,H,I.tok _,⟨_,rfl⟩,q⟩
def qf(z:Str):It:=⟨λi _=>i<z.cps.size,λi H x H'=>H'=H/\∃ c,z.cps[i]?=some c/\x=.str ⟨#[c]⟩,λi _=>z.cps.size<=i⟩
theorem ZQ7 {P:Program} {w:World} {K:Ad} {tg:Expr} (z:Str) (t:Tok) (it:Addr):Turn P w K tg (qf z) [it] it (λi h=>h.IsStrIter it "str_ascii_iterator" z t i) where
 mem:=by simp
 obj:=λi h st b hb=>by
  have e:b=it:=by simpa using hb
  subst e;obtain⟨o,e,c,d⟩:=st;exact⟨o,e,λv z=>by rw[d]at z;cases z⟩
 keep:=λi h h' st k=>by obtain⟨o,e,c,d⟩:=st;exact⟨o,k it (by simp) o e,c,d⟩
 item:=by
  intro X hP hw hK hc i pins s σ H E I hf st hg;subst hP hw hK;obtain⟨c,Wz⟩:∃ c,z.cps[i]?=some c:=⟨_,YG hg⟩;obtain⟨f0,f1,f2,f3,f4,f5⟩:=hf it (by simp);refine wpAny_pyNext_ascii_item st Wz λh' UE sb=>?_;have I1:Inv X pins σ H { s with heap:=h',toks:=s.toks+1 }:=I.turned (λb o hb e=>(sb.2 b hb).trans e) f0 f1 f3 f4 f5
  obtain⟨o,e,c',d⟩:=id UE;exact⟨_,rfl,NL (s:={ s with heap:=h',toks:=s.toks+1 }) e c' d (by decide) ⟨.str ⟨#[c]⟩,H,I1,⟨_,rfl⟩,⟨rfl,c,Wz,rfl⟩,UE,λb hb=>(hf b hb).1⟩⟩
 done:=by intro X hP hw hK hc i pins s σ H E I hf st hg;subst hP hw hK;obtain⟨f0,f1,f2,f3,f4,f5⟩:=hf it (by simp);exact wpAny_pyNext_ascii_end (I.ok.hd hc) st (Qy hg) λh' eb=>⟨rfl,I.turned (t':=s.toks) (λb o hb e=>eb b o hb e) f0 f1 f3 f4 f5⟩
 self:=λ_ _ _ _ _ st h=>wpAny_pyIter_striter_ascii st h
def qd(tl:TE):TI:=λσ H R=>tl σ H λx H1=>∃ z:Str,x=.str z/\(z.cps.all λc=>decide (c<128))=true/\R (qf z) H1
theorem DA{l tg:Expr}{tl:TE}(hl:PE X l tl):PI X tg l (qd tl):=by
 intro pins s σ H R I h;refine thn (hl pins s σ H _ I h) λv s1 Xt=>?_;obtain⟨x,H1,I1,r1,q1⟩:=Xt;obtain⟨z,e,ha,q⟩:=q1;subst e;obtain⟨t,rfl⟩:=r1;refine wpAny_pyIter_ascii ha ?_;refine⟨s1.heap.objs.size,[s1.heap.objs.size],_,_,H1,rfl,I1.kept (t':=s1.toks) λb o e=>WZ _ e,ZQ7 z t _,⟨_,Yl _ rfl,rfl,rfl⟩,λb hb=>?_,q⟩;have e:b=s1.heap.objs.size:=by simpa using hb
 subst e;exact I1.fpOk (XJ _) (I1.hok.fresh (XJ _))
def qc:V->Option Int->Option Int->Hp->VK->Prop:=λx lo hi H Q=>∃ z:Str,x=.str z/\(StrLaws.sliceText z lo hi).length<=sizeLine/\Q (.str (StrLaws.sliceText z lo hi)) H
theorem Dz(h:IsPart v o):∃ l:Option (Int × Tok),v=partValue l/\l.map (λx=>x.fst)=o:=by
 cases h with
 | none=>exact⟨none,rfl,rfl⟩
 | int i t=>exact⟨some (i,t),rfl,rfl⟩
theorem qb:zR X qc:=by
 intro pins s σ H x v vl vu lo hi sl Q I rx hs pl pu h;obtain⟨z,rfl,hz,q⟩:=h;obtain⟨t,rfl⟩:=rx;refine⟨"str",_,slot_str_getitem.lookup,HP s z t,?_⟩;obtain⟨l,rfl,e1⟩:=Dz pl;obtain⟨u,rfl,e2⟩:=Dz pu;subst e1 e2;refine wpAny_getItem_str_slice (l:=l) (u:=u) (st:=none) hs (by rfl) ?_;unfold StrLaws.sliceText at hz q;unfold sliceMade slicePicked;show Made.post (if (1 == 1 && (Builtin.Str.strSliceIndices (l.map λx=>x.fst) (u.map λx=>x.fst) 1 z.length).length == z.length)=true then _ else _) _ s
 split at hz
 .rename_i c;rw[if_pos c]at q;rw[if_pos c];exact⟨.str z,H,I,⟨t,rfl⟩,q⟩
 .rename_i c;rw[if_neg c]at q;rw[if_neg c];exact⟨hz,.str _,H,I.tok _,⟨_,rfl⟩,q⟩
end
end L2
namespace My
open PySem L2
section
variable{g:TG}{tt:TT}{te:TE}{o:Nat}{fr:List Nat}{σ:L2.St}{H:Hp}{Q:VK}
theorem qa(Pv:Nat->List V->Hp->Prop)(h0:Pv 0 [] H)(hz:z.cps.size<sizeLine)(hl:∀ i ys H,i<=z.cps.size->Pv i ys H->ys.length<=i)
  (hs:∀ i c ys H,z.cps[i]?=some c->Pv i ys H->JT Pv g tt te o fr σ i (.str ⟨#[c]⟩) ys H) (hd:∀ ys H,Pv z.cps.size ys H->∀ p,H p=none->Q (.ref p) (upd H p (.lst ys))):Nz (qf z) g tt te o fr σ H Q:=by
 refine⟨λi m ys H=>m=z.cps.size - i/\i<=z.cps.size/\Pv i ys H,⟨z.cps.size,by simp,Yk _,h0⟩,?_⟩;rintro i m ys H ⟨rfl,hi,p⟩;have hy:=hl i ys H hi p
 by_cases Xe:i<z.cps.size
 .refine .inr ⟨Xe,by lia,λx H' ⟨e,c,hc,y⟩=>?_⟩;subst e;subst y;exact hs i c ys _ hc p (λj ys H=>∃ m',m'<z.cps.size - i/\m'=z.cps.size - j/\j<=z.cps.size/\Pv j ys H) λys H p'=>⟨z.cps.size - (i+1),by grind,rfl,Xe,p'⟩
 .have e:i=z.cps.size:=by lia
  subst e;exact .inl ⟨XJ _,by lia,hd ys H p⟩
end
def nT(i:Int):Str:=Str.ofString (toString i)
def dg(m:Nat):List Nat:=(Nat.toDigits 10 m).map Char.toNat
def Om(i:Int):List Nat:=if i<0 then 45 :: dg i.natAbs else dg i.natAbs
theorem Dy(i:Int):(nT i).cps.toList=Om i:=by
 unfold nT Om;cases i with
 | ofNat m =>
  rw[if_neg (show ¬ Int.ofNat m<0 from HR.mpr (Int.natCast_nonneg m))];exact W.KIN.signs_num m
 | negSucc m =>
  rw[if_pos (Int.negSucc_lt_zero m)];have e:(Str.ofString (toString ((m+1:Nat):Int))).cps.toList=dg (m+1):=W.KIN.signs_num (m+1)
  rw[Str.ofString_eq_toList]at e ⊢;have e2:(toString (Int.negSucc m)).toList='-' :: (toString ((m+1:Nat):Int)).toList:=by show("-"++toString (m+1)).toList='-' :: (toString (m+1)).toList;rw[String.toList_append];rfl
  rw[e2,WL];show 45 :: List.map Char.toNat _=45 :: dg (m+1)
  rw[<- e]
theorem eE(h:d<10):(Nat.digitChar d).toNat=48+d:=by
 match d,h with
 | 0,_=>rfl
 | 1,_=>rfl
 | 2,_=>rfl
 | 3,_=>rfl
 | 4,_=>rfl
 | 5,_=>rfl
 | 6,_=>rfl
 | 7,_=>rfl
 | 8,_=>rfl
 | 9,_=>rfl
theorem Nd(h:m<10):dg m=[48+m]:=by unfold dg;rw[Nat.toDigits_of_lt_base h,xC,eE h]
theorem Nc(h:10<=m):dg m=dg (m / 10)++[48+m % 10]:=by unfold dg;rw[Nat.toDigits_of_base_le (by decide) h,YJ,xC,eE (Nat.mod_lt _ (by decide))]
theorem Hk(m:Nat):NumText.AllDigits (dg m):=by
 induction m using Nat.strongRecOn with
 | ind m ih =>
  intro c hc;by_cases h:m<10
  .rw[Nd h]at hc
   have:=XC.mp hc
   lia
  .rw[Nc (by lia)]at hc;rcases Xr.mp hc with q | q
   .exact ih (m / 10) (by lia) c q
   .have:=XC.mp q
    grind
theorem Nb(m:Nat):dg m≠[]:=by
 by_cases h:m<10
 .rw[Nd h];simp
 .rw[Nc (by omega)];simp
theorem Dx(m:Nat):NumText.digitsVal (dg m)=m:=by
 induction m using Nat.strongRecOn with
 | ind m ih =>
  by_cases h:m<10
  .rw[Nd h];show 0 * 10+(48+m - 48)=m
   lia
  .rw[Nc (by omega),NumText.digitsVal_snoc,ih (m / 10) (by omega)];lia
theorem Dw{m k:Nat}(hk:1<=k)(h:m<10 ^ k):(dg m).length<=k:=by unfold dg;rw[Ya];exact toDigits_len_pow (by decide) hk h
theorem p9(h:0<m):∃ c r,dg m=c :: r/\c≠48:=by
 induction m using Nat.strongRecOn with
 | ind m ih =>
  by_cases c:m<10
  .exact⟨48+m,[],Nd c,by lia⟩
  .obtain⟨a,r,e,ne⟩:=ih (m / 10) (by omega) (by lia);exact⟨a,r++[48+m % 10],by rw[Nc (by omega),e];rfl,ne⟩
theorem Na(x:Str):x.length=x.cps.toList.length:=by show x.cps.size=_;rw[YB]
theorem eD{x y:Str}(h:x.cps.toList=y.cps.toList):x=y:=Str.ext' (Array.toList_inj.mp h)
theorem p8{k:Nat}(hk:1<=k)(h1:-(10 ^ k)<i)(h2:i<10 ^ k):(Om i).length<=k+1:=by
 have e:((10 ^ k:Nat):Int)=(10:Int) ^ k:=by rw[Int.natCast_pow];rfl
 rw[<- e]at h1 h2
 have:=Dw hk (m:=i.natAbs) (by grind)
 unfold Om;split
 .rw[Yt];lia
 .lia
theorem Dv{k:Nat}(hk:1<=k)(h1:-(10 ^ k)<i)(h2:i<10 ^ k):(nT i).length<=k+1:=by rw[Na,Dy];exact p8 hk h1 h2
theorem p7{k:Nat}(hk:1<=k)(h4:k<=4000)(h1:-(10 ^ k)<i)(h2:i<10 ^ k):intText? (nT i)=some i:=by
 have hl:=Dv hk h1 h2;have e:=Dy i
 unfold Om at e;split at e
 .rw[intText_neg e (Hk _) (Nb _) (by lia),Dx];congr 1;grind
 .rw[intText_digits (by rw[e];exact Hk _) (by rw[e];exact Nb _) (by omega),e,Dx];congr 1;lia
def Wt(cs:List Nat):List Nat:=if cs.head?=some 45 then cs.tail else cs
def Pq(cs:List Nat):Bool:=decide (1<=(Wt cs).length/\(Wt cs).length<=60/\(∀ c∈Wt cs,48<=c/\c<=57)/\(cs=[48]\/(Wt cs).head?≠some 48))
theorem p6(m:Nat):(dg m).head?≠some 45:=λh=>by
 cases e:dg m with
 | nil=>exact Nb m e
 | cons c r =>
  rw[e]at h;have hc:c=45:=Yi h
  have:=Hk m c (by rw[e];exact Yc)
  lia
theorem p0(i:Int):Wt (Om i)=dg i.natAbs:=by
 unfold Wt Om;split
 .rfl
 .rw[if_neg (p6 _)]
theorem pZ(h1:-(10 ^ 60)<i)(h2:i<10 ^ 60):Pq (Om i)=true:=by
 refine Yr ?_;rw[p0];refine⟨List.length_pos_iff.mpr (Nb _),Dw (k:=60) (by decide) (by omega),Hk _,?_⟩;by_cases c:i=0
 .subst c;exact .inl rfl
 .obtain⟨a,r,e,ne⟩:=p9 (m:=i.natAbs) (by lia);refine .inr ?_;rw[e];intro q;exact ne (Yi q)
def jn(c:Nat):List (List Nat)->List Nat
 | []=>[]
 | [a]=>a
 | a :: b :: l=>a++c :: jn c (b :: l)
theorem Du(c:Nat):∀ l:List Str,(Str.join ⟨#[c]⟩ l).cps.toList=jn c (l.map λx=>x.cps.toList)
 | []=>rfl
 | [a]=>rfl
 | a :: b :: l=>by
  have ih:=Du c (b :: l);show((a++⟨#[c]⟩++Str.join ⟨#[c]⟩ (b :: l)):Str).cps.toList=a.cps.toList++c :: jn c ((b :: l).map λx=>x.cps.toList)
  rw[<- ih,Str.cps_append,Str.cps_append,xE,xE,Rc];rfl
theorem eC{c:Nat}:∀ {a b x y:List Nat},c∉a->c∉b->a++c :: x=b++c :: y->a=b/\x=y
 | [],[],_,_,_,_,e=>⟨rfl,(GA e).2⟩
 | [],b :: bs,_,_,_,hb,e=>absurd (Yc) ((GA e).1 ▸ hb)
 | a :: as,[],_,_,ha,_,e=>absurd (Yc) ((GA e).1 ▸ ha)
 | a :: as,b :: bs,x,y,ha,hb,e=>by obtain⟨e1,e2⟩:=GA e;obtain⟨h1,h2⟩:=eC (a:=as) (b:=bs) (λh=>ha (Yf _ h)) (λh=>hb (Yf _ h)) e2;exact⟨by rw[e1,h1],h2⟩
theorem Dt:∀ {A B:List (List Nat)},A≠[]->B≠[]->(∀ a∈A,c∉a)->(∀ b∈B,c∉b)->jn c A=jn c B->A=B
 | [],_,h,_,_,_,_=>absurd rfl h
 | _,[],_,h,_,_,_=>absurd rfl h
 | [a],[b],_,_,_,_,e=>by have e:a=b:=e;rw[e]
 | [a],b :: b' :: B,_,_,ha,_,e=>by have e:a=b++c :: jn c (b' :: B):=e;exact absurd (by rw[e];simp) (ha a Yc)
 | a :: a' :: A,[b],_,_,_,hb,e=>by have e:a++c :: jn c (a' :: A)=b:=e;exact absurd (by rw[<- e];simp) (hb b Yc)
 | a :: a' :: A,b :: b' :: B,_,_,ha,hb,e=>by obtain⟨e1,e2⟩:=eC (ha a Yc) (hb b Yc) (show a++c :: jn c (a' :: A)=b++c :: jn c (b' :: B) from e);rw[e1,Dt (A:=a' :: A) (B:=b' :: B) (by simp) (by simp) (λx hx=>ha x (Yf _ hx)) (λx hx=>hb x (Yf _ hx)) e2]
theorem ZR9(x y:Str):Txt.split x y≠[]:=by
 unfold Txt.split;split
 .simp
 .split
  .simp
  .rw[StrLaws.partsBetween_eq];obtain⟨p,r,e⟩:=StrLaws.partsFrom_ne x y.length 0 (Builtin.Str.occurrences x y 0 x.length (x.length+1));rw[e];simp
theorem eB{c:Nat}{l:List Str}(hl:l≠[])(hf:∀ p∈l,c∉p.cps.toList):Txt.split (Str.join ⟨#[c]⟩ l) ⟨#[c]⟩=l:=by
 have e:=StrLaws.join_split (Str.join ⟨#[c]⟩ l) ⟨#[c]⟩;have e2:=Xx (λx:Str=>x.cps.toList) e
 rw[Du,Du]at e2;have m:=Dt (by simpa using ZR9 _ _) (by simpa using hl) (λa ha=>by
  obtain⟨p,hp,rfl⟩:=YD.mp ha;exact StrLaws.split_free _ c p hp) (λa ha=>by obtain⟨p,hp,rfl⟩:=YD.mp ha;exact hf p hp) e2
 exact(List.map_inj_right (λx y h=>eD h)).mp m
theorem Rz{mg:Af}{z:Str}{v:Value}(X:K.In h)(G:h.Ns mainGlobals mg)(a:PySem.W.nsIn K mainGlobals x=some (some v))(e:∃ tk,v=.str z tk):∃ tk,mg x=some (.str z tk):=by obtain⟨tk,rfl⟩:=e;exact⟨tk,Qx X G a⟩
def QR:Str:=Str.ofString " "
def Ds:Str:=Str.ofString "\n"
def Ry (p:Int × Int) (l:Int):Str:=Str.join QR [Str.ofString "tie",nT p.1,nT p.2,nT l]
def WB (n:Int) (ps:Aa) (ls:Ac):List Str:=(Str.ofString "places "++nT n) :: List.zipWith Ry ps ls
def Jt(n:Int)(ps:Aa)(ls:Ac):Str:=Str.join Ds (WB n ps ls)
theorem Dr:QR=⟨#[32]⟩:=by rfl
theorem Jr:Ds=⟨#[10]⟩:=by rfl
theorem eA (n:Int):Str.ofString "places "++nT n=Str.join QR [Str.ofString "places",nT n]:=by
 have e:Str.ofString "places "=Str.ofString "places"++QR:=by rfl
 rw[e];rfl
theorem eh{c:Nat}(h:c∈Om i):c=45\/48<=c/\c<=57:=by
 unfold Om at h;split at h
 .rcases Yh.mp h with e | e
  .exact .inl e
  .exact .inr (Hk _ c e)
 .exact .inr (Hk _ c h)
theorem Dq{c:Nat}(h1:c≠45)(h2:c<48\/57<c):c∉(nT i).cps.toList:=λh=>by rw[Dy]at h;rcases eh h with e | e <;> lia
theorem pY(i:Int):((nT i).cps.all λc=>decide (c<128))=true:=by rw[<- Array.all_toList,Dy,Sb];intro c hc;refine Yr ?_;rcases eh hc with e | e <;> lia
theorem Dp{c x:Nat}:∀ {A:List (List Nat)},x∈jn c A->x=c\/∃ a∈A,x∈a
 | [],h=>by cases h
 | [a],h=>.inr ⟨a,Yc,h⟩
 | a :: b :: A,h=>by
  have h:x∈a++c :: jn c (b :: A):=h;rcases Xr.mp h with h | h
  .exact .inr ⟨a,Yc,h⟩
  .rcases Yh.mp h with h | h
   .exact .inl h
   .rcases Dp h with e | ⟨y,hy,hx⟩
    .exact .inl e
    .exact .inr ⟨y,Yf _ hy,hx⟩
theorem Dn{c B:Nat}:∀ {A:List (List Nat)},(∀ a∈A,a.length<=B)->(jn c A).length<=A.length * (B+1)
 | [],_=>Yk _
 | [a],h=>by
  have:=h a Yc
  show a.length<=1 * (B+1);lia
 | a :: b :: A,h=>by
  have h1:=h a Yc;have ih:=Dn (c:=c) (A:=b :: A) λx hx=>h x (Yf _ hx)
  show(a++c :: jn c (b :: A)).length<=_;rw[Xv,Yt,Yt,Nat.add_mul];lia
theorem pX{c B:Nat}{l:List Str}(h:∀ a∈l,a.length<=B):(Str.join ⟨#[c]⟩ l).length<=l.length * (B+1):=by rw[Na,Du];refine Yv (Dn (B:=B) λa ha=>?_) (by rw[Ya];exact XJ _);obtain⟨p,hp,rfl⟩:=YD.mp ha;rw[<- Na];exact h p hp
theorem d9{c B:Nat}{l:List Str}(h:∀ a∈l,a.length<=B)(hl:l.length * B+l.length<=16777216):JoinOk ⟨#[c]⟩ l=true:=by unfold JoinOk;rw[StrLaws.joinFits h (by show l.length * B+l.length * 1<=_;lia)];rfl
def Told(l:Ac):Prop:=∀ z∈l,-(10 ^ 60)<z/\z<(10:Int) ^ 60
theorem pW(h:Told l):∀ a∈l.map nT,a.length<=61:=λa ha=>by obtain⟨z,hz,rfl⟩:=YD.mp ha;exact Dv (k:=60) (by decide) (h z hz).1 (h z hz).2
theorem ZE9{name:Str}{l:Ac}(hn:32∉name.cps.toList):Txt.split (Str.join QR (name :: l.map nT)) QR=name :: l.map nT:=by
 rw[Dr];refine eB (by simp) λp hp=>?_;rcases Yh.mp hp with e | e
 .rw[e];exact hn
 .obtain⟨z,_,rfl⟩:=YD.mp e;exact Dq (by decide) (.inl (by decide))
theorem Dm{name:Str}{l:Ac}(hn:10∉name.cps.toList):10∉(Str.join QR (name :: l.map nT)).cps.toList:=λh=>by
 rw[Dr,Du]at h;rcases Dp h with e | ⟨a,ha,hx⟩
 .cases e
 .obtain⟨p,hp,rfl⟩:=YD.mp ha;rcases Yh.mp hp with e | e
  .rw[e]at hx;exact hn hx
  .obtain⟨z,_,rfl⟩:=YD.mp e;exact Dq (by decide) (.inl (by decide)) hx
theorem pV:Txt.split (Jt n ps ls) Ds=WB n ps ls:=by
 unfold Jt;rw[Jr];refine eB (by unfold WB;simp) λp hp=>?_;rcases Yh.mp hp with e | e
 .rw[e,eA];exact Dm (l:=[n]) (by decide)
 .obtain⟨i,hi,e⟩:=RW e;rw[List.getElem_zipWith]at e;rw[<- e];exact Dm (l:=[_,_,_]) (by decide)
theorem ZV7 (w:Str):Txt.startswith w (Str.ofString "-")=decide (w.cps.toList.head?=some 45):=by
 have h:=StrLaws.subAt_one w 45 0;have e:Str.ofString "-"=⟨#[45]⟩:=by rfl
 rw[e];unfold Txt.startswith;rw[List.head?_eq_getElem?];by_cases c:w.cps.toList[0]?=some 45
 .obtain⟨h1,h2⟩:=h.mpr c;rw[Yr c,h2,Bool.and_true];exact Yr h1
 .rw[YT c];refine NS.mpr λq=>c (h.mp ?_);obtain⟨q1,q2⟩:=Bool.and_eq_true_iff.mp q;exact⟨Yo q1,q2⟩
theorem Zs6(h:1<=w.cps.toList.length):(StrLaws.sliceText w (some 1) none).cps.toList=w.cps.toList.tail:=by
 rw[StrLaws.sliceText_from (i:=1) ⟨by decide,by lia⟩];show(List.take _ (List.drop 1 _))=_
 rw[List.drop_one];refine YO ?_;rw[Ax];omega
theorem ZB8 (c:Nat):(!(!(Builtin.Str.occurrences (Str.ofString "0123456789") ⟨#[c]⟩ 0 (Str.ofString "0123456789").length 1).isEmpty))=!decide (48<=c/\c<=57):=by
 rw[StrLaws.found_one];congr 1;have e:(Str.ofString "0123456789").cps.toList=[48,49,50,51,52,53,54,55,56,57]:=by rfl
 rw[e];refine NR.mpr ⟨λh=>?_,λh=>?_⟩
 .simp at h;omega
 .simp;lia
theorem Dl{i:Nat}{v:V}(h:(TL l)[i]?=some v):∃ x,v=.str x/\l[i]?=some x:=by unfold TL at h;rw[Yn]at h;obtain⟨x,hx,rfl⟩:=iZ.mp h;exact⟨x,rfl,hx⟩
theorem Hj(l:List Str):(TL l).length=l.length:=by unfold TL;rw[Ya]
theorem pU(l:List Str)(x:Str):TL l++[.str x]=TL (l++[x]):=by unfold TL;rw[YJ];rfl
theorem ZO7{ps:Aa}{ls:Ac}{p:Int × Int}{l:Int}(hp:ps[i]?=some p)(hl:ls[i]?=some l):WB n (ps.take (i+1)) (ls.take (i+1))=WB n (ps.take i) (ls.take i)++[Ry p l]:=by
 have h1:=(Xm.mp hp).1;have h2:=(Xm.mp hl).1
 unfold WB;rw[YL,YL,hp,hl];rw[List.zipWith_append (by rw[Yj,Yj];grind)];rfl
theorem Jq(hl:ls.length=ps.length):(WB n ps ls).length=ps.length+1:=by unfold WB;rw[Yt,Od];grind
theorem pT(h:Told [p.1,p.2,l]):(Ry p l).length<=400:=by
 unfold Ry;rw[Dr];refine Yv (pX (B:=61) (l:=Str.ofString "tie" :: [p.1,p.2,l].map nT) λa ha=>?_) (show 4 * (61+1)<=400 by decide);rcases Yh.mp ha with e | e
 .rw[e];decide
 .exact pW h a e
theorem Jp(g:Zz n ps)(hT:Told ls){i:Nat}{p:Int × Int}{l:Int}(hp:ps[i]?=some p)(hl:ls[i]?=some l):Told [p.1,p.2,l]:=λz hz=>by
 have:=g.2.2.2 p (Xi hp)
 have:=g.2.1
 rcases Yh.mp hz with e | e
 .omega
 .rcases Yh.mp e with e | e
  .grind
  .rw[XC.mp e];exact hT l (Xi hl)
theorem Dk(g:Zz n ps)(hT:Told ls):∀ a∈WB n ps ls,a.length<=400:=λa ha=>by
 rcases Yh.mp ha with e | e
 .rw[e,Na,Str.cps_append,xE,Xv,<- Na,<- Na]
  have:=Dv (i:=n) (k:=60) (by decide) (by have:=g.1;omega) (by have:=g.2.1;omega)
  have e2:(Str.ofString "places ").length=7:=by decide
  lia
 .obtain⟨i,hi,e⟩:=RW e;rw[List.getElem_zipWith]at e;rw[<- e];rw[Od]at hi;exact pT (Jp g hT (i:=i) (Xu (by grind)) (Xu (by grind)))
abbrev Tr:=Int × Aa × Ac
end My
namespace My
open PySem PySem.W PyProof.Rows
def UM{α:Type}(c:Nat->Nat->Bool):KasT α->α
 | .ret a=>a
 | .ask i j k=>UM c (k (c i j))
theorem Hi{α β:Type}{c:Nat->Nat->Bool}{f:α->KasT β}:∀ t:KasT α,UM c (t.bind f)=UM c (f (UM c t))
 | .ret _=>rfl
 | .ask i j k=>Hi (k (c i j))
section
variable{n:Nat}{key:Nat->Int}
def Ahd(key:Nat->Int)(i j:Nat):Prop:=key i<key j\/(key i=key j/\i<j)
theorem Ahd.trans{i j k:Nat}(h1:Ahd key i j)(h2:Ahd key j k):Ahd key i k:=by unfold Ahd at *;grind
structure Ord (n m:Nat) (p:Array Nat):Prop where
 perm:p.Perm (List.range n).toArray
 suf:∀ i,m<=i->i<n->p.getD i 0=i
theorem Ord.size(h:Ord n m p):p.size=n:=by rw[h.perm.size_eq];simp
theorem MZ{p:Array Nat}(h:i<p.size):p[i]?=some (p.getD i 0):=by rw[YC,YG h];rfl
theorem Ord.inj(h:Ord n m p)(hi:i<n)(hj:j<n)(e:p.getD i 0=p.getD j 0):i=j:=by
 have hn:p.toList.Nodup:=(AI.mp h.perm).nodup_iff.mpr List.nodup_range;have hs:=h.size
 have e1:=MZ (p:=p) (i:=i) (by lia);have e2:=MZ (p:=p) (i:=j) (by lia)
 rw[<- YS]at e1 e2;exact(List.getElem?_inj (i:=i) (j:=j) (by rw[YB];omega) hn).mp (by rw[e1,e2,e])
theorem Ord.lt(h:Ord n m p)(hm:m<=n)(hi:i<m):p.getD i 0<m:=by
 by_cases hc:p.getD i 0<m
 .exact hc
 .have hs:=h.size;have hb:p.getD i 0<n:=by have e1:=MZ (p:=p) (i:=i) (by grind);rw[<- YS]at e1;exact YI.mp ((AI.mp h.perm).mem_iff.mp (Xi e1))
  have e:=h.inj (by lia) hb (h.suf _ (by omega) hb).symm;grind
theorem Ord.mono(h:Ord n m p)(hk:m<=k):Ord n k p:=⟨h.perm,λi hi=>h.suf i (by lia)⟩
theorem Ol{i j k:Nat}(hj:j<=p.size):(kas_rev p i j).getD k 0=if i<=k/\k<j then p.getD (i+j - 1 - k) 0 else p.getD k 0:=by unfold kas_rev;rw[YC,getElem?_mirror_all hj,apply_ite (λo:Option Nat=>o.getD 0),<- YC,<- YC]
theorem Ord.rev(h:Ord n m p)(hj:j<=m)(hm:m<=n):Ord n m (kas_rev p i j):=by have hs:=h.size;refine⟨(mirror_perm _ _ _ _).trans h.perm,λk hk hn=>?_⟩;rw[Ol (by lia),if_neg (by lia)];exact h.suf k hk hn
def Asc(key:Nat->Int)(m:Nat)(p:Array Nat):Prop:=∀ i j,i<j->j<m->Ahd key (p.getD i 0) (p.getD j 0)
theorem Asc.more(hm:1<=m)(h:Asc key m p)(h2:Ahd key (p.getD (m - 1) 0) (p.getD m 0)):Asc key (m+1) p:=λi j TV hj=>by
 by_cases e:j=m
 .subst e;by_cases e2:i=j - 1
  .rw[e2];exact h2
  .exact(h i (j - 1) (by lia) (by omega)).trans h2
 .exact h i j TV (by lia)
theorem Jo:∀(f m:Nat) (p:Array Nat),m+f=n->1<=m->Ord n m p->Asc key m p->∃ k,UM (λi j=>decide (key i<key j)) (kas_asc p f m)=k/\m<=k/\k<=n/\Asc key k p/\(k<n->key (p.getD k 0)<key (p.getD (k - 1) 0))
 | 0,m,p,hf,h1,ho,ha=>⟨m,rfl,XJ _,by lia,ha,λh=>by lia⟩
 | f+1,m,p,hf,h1,ho,ha=>by
  show ∃ k,UM _ (if decide (key (p.getD m 0)<key (p.getD (m - 1) 0))=true then KasT.ret m else kas_asc p f (m+1))=k/\_;by_cases hc:key (p.getD m 0)<key (p.getD (m - 1) 0)
  .rw[if_pos (Yr hc)];exact⟨m,rfl,XJ _,by lia,ha,λ_=>hc⟩
  .rw[if_neg (λz=>hc (Yo z))];have e:=ho.suf m (XJ _) (by lia)
   have l:=ho.lt (by lia) (i:=m - 1) (by lia);obtain⟨k,e1,e2,e3,e4,e5⟩:=Jo f (m+1) p (by lia) (by lia) (ho.mono (by lia)) (ha.more h1 (by unfold Ahd;rw[e]at hc ⊢;lia));exact⟨k,e1,by lia,e3,e4,e5⟩
structure Dsc (key:Nat->Int) (m g:Nat) (p:Array Nat):Prop where
 le:g+1<=m
 old:∀ i j,i<j->j<m - (g+1)->Ahd key (p.getD j 0) (p.getD i 0)
 mid:∀ i j,i<m - (g+1)->m - (g+1)<=j->j<m->key (p.getD j 0)<key (p.getD i 0)
 own:∀ i j,m - (g+1)<=i->i<j->j<m->key (p.getD i 0)=key (p.getD j 0)/\p.getD i 0<p.getD j 0
def Fall(key:Nat->Int)(m:Nat)(p:Array Nat):Prop:=∀ i j,i<j->j<m->Ahd key (p.getD j 0) (p.getD i 0)
theorem Dsc.turn(h:Dsc key m g p)(hs:m<=p.size):Fall key m (kas_rev p (m - (g+1)) m):=λi j TV hj=>by
 have hl:=h.le;rw[Ol hs,Ol hs];by_cases c1:m - (g+1)<=j
 .rw[if_pos ⟨c1,hj⟩];by_cases c2:m - (g+1)<=i
  .rw[if_pos ⟨c2,by lia⟩];exact .inr (h.own (m - (g+1)+m - 1 - j) (m - (g+1)+m - 1 - i) (by omega) (by omega) (by lia))
  .rw[if_neg (by lia)];exact .inl (h.mid i _ (by lia) (by lia) (by lia))
 .rw[if_neg (by lia),if_neg (by lia)];exact h.old i j TV (by lia)
theorem Dsc.last(h:Dsc key m g p)(hs:m<=p.size):key ((kas_rev p (m - (g+1)) m).getD (m - 1) 0)=key (p.getD (m - 1) 0):=by
 have hl:=h.le;rw[Ol hs,if_pos (by grind)];by_cases e:g=0
 .congr 2;grind
 .exact(h.own (m - (g+1)+m - 1 - (m - 1)) (m - 1) (by omega) (by omega) (by lia)).1
theorem Dsc.fall(h:Dsc key m 0 p):Fall key m p:=λi j TV hj=>by
 have hl:=h.le;by_cases e:j<m - (0+1)
 .exact h.old i j TV e
 .exact .inl (h.mid i j (by grind) (by lia) hj)
theorem Fall.new(hm:1<=m)(h:Fall key m p)(hk:key (p.getD m 0)<key (p.getD (m - 1) 0)):Dsc key (m+1) 0 p:=by
 refine⟨by lia,λi j TV hj=>h i j TV (by lia),λi j hi h1 h2=>?_,λi j h1 h2 h3=>by grind⟩;have e:j=m:=by lia
 subst e;by_cases c:i=j - 1
 .rw[c];exact hk
 .have:=h i (j - 1) (by lia) (by omega)
  unfold Ahd at this;omega
theorem Fall.rev(h:Fall key m p)(hs:m<=p.size):Asc key m (kas_rev p 0 m):=λi j TV hj=>by rw[Ol hs,Ol hs,if_pos ⟨Yk _,by lia⟩,if_pos ⟨Yk _,hj⟩];exact h _ _ (by omega) (by omega)
theorem Asc.rev(h:Asc key m p)(hs:m<=p.size):Fall key m (kas_rev p 0 m):=λi j TV hj=>by rw[Ol hs,Ol hs,if_pos ⟨Yk _,hj⟩,if_pos ⟨Yk _,by omega⟩];exact h _ _ (by omega) (by omega)
theorem yR:∀(f m g:Nat) (p:Array Nat),m+f=n->Ord n m p->Dsc key m g p->∃ p' m' g',UM (λi j=>decide (key i<key j)) (kas_desc f p m g)=(p',m',g')/\m<=m'/\m'<=n/\Ord n m' p'/\Dsc key m' g' p'
 | 0,m,g,p,hf,ho,hd=>⟨p,m,g,rfl,XJ _,by omega,ho,hd⟩
 | f+1,m,g,p,hf,ho,hd=>by
  have hl:=hd.le;have hs:=ho.size
  have em:=ho.suf m (XJ _) (by lia);have ll:=ho.lt (by lia) (i:=m - 1) (by lia)
  show ∃ p' m' g',UM _ (if decide (key (p.getD m 0)<key (p.getD (m - 1) 0))=true then (if g > 0 then kas_desc f (kas_rev p (m - (g+1)) m) (m+1) 0 else kas_desc f p (m+1) 0) else KasT.ask (p.getD (m - 1) 0) (p.getD m 0) λd=>if d=true then .ret (p,m,g) else kas_desc f p (m+1) (g+1))=_/\_;by_cases hc:key (p.getD m 0)<key (p.getD (m - 1) 0)
  .rw[if_pos (Yr hc)];by_cases hg:g > 0
   .rw[if_pos hg];have hr:=ho.rev (i:=m - (g+1)) (XJ m) (by lia)
    have em2:=hr.suf m (XJ _) (by lia);obtain⟨p',m',g',e1,e2,e3,e4,e5⟩:=yR f (m+1) 0 (kas_rev p (m - (g+1)) m) (by lia) (hr.mono (by lia)) ((hd.turn (by lia)).new (by lia) (by rw[hd.last (by omega),em2];rwa[em]at hc));exact⟨p',m',g',e1,by lia,e3,e4,e5⟩
   .rw[if_neg hg];obtain rfl:g=0:=by lia
    obtain⟨p',m',g',e1,e2,e3,e4,e5⟩:=yR f (m+1) 0 p (by omega) (ho.mono (by omega)) (hd.fall.new (by lia) hc);exact⟨p',m',g',e1,by lia,e3,e4,e5⟩
  .rw[if_neg (λz=>hc (Yo z))];show ∃ p' m' g',UM _ (if decide (key (p.getD (m - 1) 0)<key (p.getD m 0))=true then KasT.ret (p,m,g) else kas_desc f p (m+1) (g+1))=_/\_
   by_cases VL:key (p.getD (m - 1) 0)<key (p.getD m 0)
   .rw[if_pos (Yr VL)];exact⟨p,m,g,rfl,XJ _,by omega,ho,hd⟩
   .rw[if_neg (λz=>VL (Yo z))];have ek:key (p.getD (m - 1) 0)=key (p.getD m 0):=by lia
    obtain⟨p',m',g',e1,e2,e3,e4,e5⟩:=yR f (m+1) (g+1) p (by omega) (ho.mono (by omega)) ⟨by lia,λi j h1 h2=>hd.old i j h1 (by lia),λi j h1 h2 h3=>by
     by_cases c:j=m
     .rw[c,<- ek];exact hd.mid i (m - 1) (by lia) (by grind) (by lia)
     .exact hd.mid i j (by lia) (by lia) (by lia),λi j h1 h2 h3=>by
     by_cases c:j=m
     .rw[c];by_cases c2:i=m - 1
      .rw[c2,em];rw[em]at ek;exact⟨ek,ll⟩
      .have:=hd.own i (m - 1) (by lia) (by lia) (by omega)
       rw[em];rw[em]at ek;exact⟨this.1.trans ek,by lia⟩
     .exact hd.own i j (by lia) h2 (by omega)⟩
    exact⟨p',m',g',e1,by lia,e3,e4,e5⟩
theorem d7(hm:1<=m)(hn:m<=n)(ho:Ord n m p)(hf:Fall key m p):∃ k p',UM (λi j=>decide (key i<key j)) (kas_tail3 m n p)=(k,p')/\1<=k/\k<=n/\Ord n k p'/\Asc key k p':=by
 have hs:=ho.size;unfold kas_tail3;rw[Hi];have hr:=ho.rev (i:=0) (XJ m) hn
 obtain⟨k,e1,e2,e3,e4,_⟩:=Jo (n - m) m (kas_rev p 0 m) (by grind) hm hr (hf.rev (by lia));rw[e1];exact⟨k,_,rfl,by lia,e3,hr.mono e2,e4⟩
theorem Dj(hm:1<=m)(hn:m<n)(ho:Ord n m p)(hf:Fall key m p)(hk:key (p.getD m 0)<key (p.getD (m - 1) 0)):∃ k p',UM (λi j=>decide (key i<key j)) (kas_descPart m n p)=(k,p')/\1<=k/\k<=n/\Ord n k p'/\Asc key k p':=by
 unfold kas_descPart;rw[Hi];obtain⟨p',m',g',e1,e2,e3,e4,e5⟩:=yR (n - (m+1)) (m+1) 0 p (by grind) (ho.mono (by lia)) (hf.new hm hk);rw[e1];have hs:=e4.size
 show ∃ k q,UM _ (if g' > 0 then kas_tail3 m' n (kas_rev p' (m' - (g'+1)) m') else kas_tail3 m' n p')=_/\_;by_cases hg:g' > 0
 .rw[if_pos hg];exact d7 (by lia) e3 (e4.rev (XJ _) e3) (e5.turn (by lia))
 .rw[if_neg hg];obtain rfl:g'=0:=by lia
  exact d7 (by lia) e3 e4 e5.fall
theorem Di(hn:1<=n)(ho:Ord n 1 p):∃ k p',UM (λi j=>decide (key i<key j)) (kas_count n p)=(k,p')/\1<=k/\k<=n/\Ord n k p'/\Asc key k p':=by
 unfold kas_count;rw[Hi];obtain⟨k,e1,e2,e3,e4,e5⟩:=Jo (key:=key) (n - 1) 1 p (by lia) (XJ _) ho λi j h1 h2=>by lia
 rw[e1];have hs:=ho.size
 have hk:=ho.mono e2;by_cases c:k=n
 .rw[if_pos (by rw[c];exact xx n)];exact⟨k,p,rfl,e2,e3,hk,e4⟩
 .rw[if_neg (λz=>c (VT.mp z))];have Xe:k<n:=by lia
  have h5:=e5 Xe;by_cases c1:k > 1
  .rw[if_pos c1];show ∃ k' p',UM _ (if decide (key (p.getD 0 0)<key (p.getD (k - 1) 0))=true then KasT.ret (k,p) else kas_descPart k n (kas_rev p 0 k))=_/\_
   by_cases c2:key (p.getD 0 0)<key (p.getD (k - 1) 0)
   .rw[if_pos (Yr c2)];exact⟨k,p,rfl,e2,e3,hk,e4⟩
   .rw[if_neg (λz=>c2 (Yo z))];have a0:=e4 0 (k - 1) (by lia) (by lia)
    have eq:key (p.getD 0 0)=key (p.getD (k - 1) 0):=by unfold Ahd at a0;grind
    have hr:=hk.rev (i:=0) (XJ k) (by lia);refine Dj e2 Xe hr (e4.rev (by lia)) ?_;rwa[Ol (by omega),Ol (by omega),if_neg (by lia),if_pos (by lia),show 0+k - 1 - (k - 1)=0 by lia,eq]
  .rw[if_neg c1];obtain rfl:k=1:=by lia
   exact Dj (XJ _) Xe hk (λi j h1 h2=>by lia) h5
theorem pS(hk:Asc key k p):∀(f l r:Nat),r - l<=f->l<=r->r<=k->(∀ i,i<l->¬ key (p.getD k 0)<key (p.getD i 0))->(∀ i,r<=i->i<k->key (p.getD k 0)<key (p.getD i 0))->∃ l',UM (λi j=>decide (key i<key j)) (kas_place p k f l r)=l'/\l'<=k/\(∀ i,i<l'->¬ key (p.getD k 0)<key (p.getD i 0))/\(∀ i,l'<=i->i<k->key (p.getD k 0)<key (p.getD i 0))
 | 0,l,r,hf,h1,h2,ha,hb=>⟨l,rfl,by lia,ha,λi hi=>hb i (by grind)⟩
 | f+1,l,r,hf,h1,h2,ha,hb=>by
  have mono:∀ i j,i<=j->j<k->key (p.getD i 0)<=key (p.getD j 0):=λi j TV hj=>by
   by_cases e:i=j
   .rw[e];exact Mi _
   .have:=hk i j (by lia) hj
    unfold Ahd at this;lia
  unfold kas_place;by_cases c:l >= r
  .rw[if_pos c];exact⟨l,rfl,by lia,ha,λi hi=>hb i (by lia)⟩
  .rw[if_neg c];show ∃ l',UM _ (if decide (key (p.getD k 0)<key (p.getD ((l+r) / 2) 0))=true then kas_place p k f l ((l+r) / 2) else kas_place p k f ((l+r) / 2+1) r)=l'/\_
   by_cases c2:key (p.getD k 0)<key (p.getD ((l+r) / 2) 0)
   .rw[if_pos (Yr c2)];exact pS hk f l ((l+r) / 2) (by grind) (by lia) (by lia) ha λi hi qX=>by
     have:=mono ((l+r) / 2) i hi qX
     omega
   .rw[if_neg (λz=>c2 (Yo z))];exact pS hk f ((l+r) / 2+1) r (by grind) (by lia) (by lia) (λi hi=>by
     have:=mono i ((l+r) / 2) (by lia) (by lia)
     omega) hb
theorem Pp{k d x:Nat}(hk:k<p.size)(hd:d<=k):(bubble p k d).getD x 0=if x=k - d then p.getD k 0 else if k - d<x/\x<=k then p.getD (x - 1) 0 else p.getD x 0:=by rw[YC,getElem?_bubble hk d hd,apply_ite (λo:Option Nat=>o.getD 0),apply_ite (λo:Option Nat=>o.getD 0),<- YC,<- YC,<- YC]
theorem Lx:∀(f k:Nat) (p:Array Nat),k+f=n->Ord n k p->Asc key k p->∃ p',UM (λi j=>decide (key i<key j)) (kas_bin f p k)=p'/\Ord n n p'/\Asc key n p'
 | 0,k,p,hf,ho,ha=>by
  obtain rfl:k=n:=by lia
  exact⟨p,rfl,ho,ha⟩
 | f+1,k,p,hf,ho,ha=>by
  have hs:=ho.size;have ek:=ho.suf k (XJ _) (by lia)
  unfold kas_bin;rw[Hi];obtain⟨l,e1,e2,e3,e4⟩:=pS ha k 0 k (by lia) (by lia) (XJ _) (λi hi=>by lia) λi hi VO=>by grind
  rw[e1];refine Lx f (k+1) (bubble p k (k - l)) (by lia) ⟨(bubble_perm _ _ _).trans ho.perm,λi hi hn=>?_⟩ λi j TV hj=>?_
  .rw[Pp (by lia) (by grind),if_neg (by lia),if_neg (by lia)];exact ho.suf i (by lia) hn
  .have low:∀ x,x<k->p.getD x 0<k:=λx hx=>ho.lt (by lia) hx;rw[Pp (by lia) (by grind),Pp (by omega) (by omega)];have ekl:k - (k - l)=l:=by grind
   rw[ekl];by_cases c1:i=l
   .rw[if_pos c1,if_neg (by lia),if_pos (by lia)];exact .inl (e4 (j - 1) (by grind) (by grind))
   .rw[if_neg c1];by_cases c2:j=l
    .rw[if_pos c2,if_neg (by lia)];have a:=e3 i (by grind)
     have b:=low i (by lia);rw[ek]at a ⊢;unfold Ahd;lia
    .rw[if_neg c2];by_cases c3:l<i
     .rw[if_pos ⟨c3,by lia⟩,if_pos ⟨by lia,by lia⟩];exact ha _ _ (by grind) (by grind)
     .rw[if_neg (by lia)];by_cases c4:l<j
      .rw[if_pos ⟨c4,by omega⟩];exact ha _ _ (by lia) (by grind)
      .rw[if_neg (by lia)];exact ha _ _ TV (by lia)
theorem MY(hn:1<=n):∃ p,UM (λi j=>decide (key i<key j)) (kas_sort n)=p/\p.toList.Perm (List.range n)/\p.toList.Pairwise (Ahd key):=by
 have fin:∀ p,Ord n n p->Asc key n p->p.toList.Perm (List.range n)/\p.toList.Pairwise (Ahd key):=λp ho ha=>by
  have hs:=ho.size;refine⟨AI.mp ho.perm,Ik.mpr λi j hi hj TV=>?_⟩;rw[YB]at hi hj
  have:=ha i j TV (by lia)
  rwa[YC,YC,YG hi,YG hj]at this
 unfold kas_sort;rw[Hi];obtain⟨k,p,e1,e2,e3,e4,e5⟩:=Di (key:=key) hn (p:=(List.range n).toArray) ⟨Array.Perm.refl _,λi _ hi=>by simp[Array.getD,hi]⟩;rw[e1];show ∃ q,UM _ (if k<n then kas_bin (n - max k 1) p (max k 1) else .ret p)=q/\_
 by_cases c:k<n
 .rw[if_pos c,Nat.max_eq_left e2];obtain⟨q,h1,h2,h3⟩:=Lx (n - k) k p (by grind) e4 e5;exact⟨q,h1,fin q h2 h3⟩
 .rw[if_neg c];obtain rfl:k=n:=by lia
  exact⟨p,rfl,fin p e4 e5⟩
end
end My
namespace L2
open PySem PySem.Spec PyProof.Rows
def Po(P:Program)(w:World)(K:Ad)(mg:Af)(base:Heap)(N:List Str)(qual:Str)(scope:Scope)(f:Addr)(cd:Value)(cl:List (Str × Addr))(A:Around)(outer:List Env)(s:Shared)(H:Hp):Cx where
 prog:=P
 w:=w
 K:=K
 mg:=mg
 base:=base
 A:=A.deeper (PySem.W.envX qual scope s.heap.objs.size f cd cl)
 N:=N
 s₀:=s
 H₀:=H
 env:=PySem.W.envX qual scope s.heap.objs.size f cd cl
 outer:=outer
 stack:=PySem.W.envX qual scope s.heap.objs.size f cd cl :: outer
 ex:=[]
 calm:=true
 fn:=λ_=>false
 pn:=[]
 xe:=λ_ _=>False
structure LamScope (v x:Str) (sc:Scope):Prop where
 kind:sc.kind=.function
 co:sc.isCoroutine=false
 gen:sc.isGenerator=false
 nocell:∀ y∈sc.names,y.2≠.cell
 par:sc.names.lookup v=some .local
 free:sc.names.lookup x=some .free
 only:∀ y,sc.names.lookup y=some .free->y=x
 ne:v≠x
section
variable{P:Program}{w:World}{K:Ad}{mg:Af}{base:Heap}{qual name v x:Str}{scope:Scope}{f c c':Addr}{cd pm Sk u ux:Value}{A:Around}{outer:List Env}{s:Shared}{H:Hp}{vv vx:V}{params:Arguments}{body:Expr}{k:Nat}{t:TE}{Q:VK}
theorem yQ{c2:Addr}(h:List.lookup y [(x,c)]=some c2):y=x/\c2=c:=by
 unfold List.lookup at h;split at h
 .rename_i e;exact⟨VT.mp e,(Yi h).symm⟩
 .cases h
theorem pR(S:LamScope v x scope)(hd:A.handled=none)(e0:Env0 P w K mg base A outer s H)(hc:s.heap.IsCell c (some ux))(rx:RelV vx ux)(pQ:H c=none)(rv:RelV vv u){h1:Heap}{tk:Nat}
  (Uh:h1.Ns s.heap.objs.size λy=>[(v,u)].reverse.lookup y) (hk:∀ b o,s.heap.get? b=some o->h1.get? b=some o) :
  Inv (Po P w K mg base [v,x] qual scope f cd [(x,c)] A outer s H) [] [some vv,some vx] H { s with heap:=h1,toks:=tk }:=by
 have Ki:∀ b:Addr,b∉(Po P w K mg base [v,x] qual scope f cd [(x,c)] A outer s H).ex:=λb z=>absurd (show b∈([]:List Addr) from z) (by simp);have d6:h1.IsCell c (some ux):=by obtain⟨o,e,d⟩:=hc;exact⟨o,hk _ _ e,d⟩
 have lk:List.lookup x [(x,c)]=some c:=by unfold List.lookup;rw[xx]
 refine⟨⟨e0.mod,S.kind,rfl,rfl,XJ _,λy z c2 h1 h2=>?_,λy hy=>?_,λy c2 z _=>(nomatch z),λ_=>hd,Around.frames_deeper e0.frames,.inr ⟨rfl,rfl⟩,λb z=>absurd z (Ki b),e0.bs,e0.bsz,λb _ _=>Ki b,λb z=>absurd z (Ki b),e0.funs,e0.frf⟩,
  rfl,e0.bare,Un.kept hk,⟨_,Uh,λi y v' h1 h2 h3=>?_⟩,λy c2 h=>?_,e0.hok.fresh (XJ _),λy c2 h=>?_,λp hp=>absurd (show p∈([]:List (Addr × Obj)) from hp) (by simp),e0.hok.kept hk,rfl⟩
 .rw[(yQ h1).1,(yQ h2).1]
 .have hy:scope.names.lookup y=some .cell\/scope.names.lookup y=some .free:=hy;rcases hy with hy | hy
  .exact absurd rfl (S.nocell _ (Lc hy))
  .rw[S.only y hy];exact⟨c,lk⟩
 .match i,h1,h2 with
  | 0,h1,h2 =>
   obtain rfl:v=y:=Yi h1;obtain rfl:vv=v':=Yi (Yi h2);refine⟨u,rv,.inl ⟨S.par,?_⟩⟩;show List.lookup v [(v,u)]=some u
   unfold List.lookup;rw[xx]
  | 1,h1,h2 =>
   obtain rfl:x=y:=Yi h1;obtain rfl:vx=v':=Yi (Yi h2);exact⟨ux,rx,.inr ⟨.inr S.free,c,lk,d6⟩⟩
  | i+2,h1,h2=>cases h1
 .rw[(yQ h).2];exact⟨_,d6⟩
 .rw[(yQ h).2];exact pQ
theorem pP(S:LamScope v x scope)(hr:Room (k+1) A)(e0:Env0 P w K mg base A outer s H)(ho:s.heap.get? f=some (PySem.W.kla_obj name qual params body scope [(x,c)] pm c' Sk))(Tt:s.heap.CodeRec (.ref c') qual)
  (TH:bindArgs (PySem.W.kla_fn name qual params body scope [(x,c)] pm (.ref c') Sk) ⟨[u],[]⟩=pure [(v,u)]) (hc:s.heap.IsCell c (some ux)) (rx:RelV vx ux) (pQ:H c=none) (rv:RelV vv u)
  (hb:PE (Po P w K mg base [v,x] qual scope f (.ref c') [(x,c)] A outer s H) body t) (hq:t [some vv,some vx] H Q) :
  codeAny (model P w) A (.call (.ref f) ⟨[u],[]⟩) (λr s'=>∃ u',r=.ok (.ret u')/\CE outer P w H s Q u' s') s:=by
 have lim:s.heap.NoLimit:=e0.mod.nolimit.keeps λb o e=>(e0.bs b o e).1;refine PySem.W.kla_callFunE hr.depth ho rfl S.co S.gen rfl Tt ?_;rw[TH];refine Ym (wpAny_newFunctionEnv S.nocell (λy hy=>?_) (λh1 Uh d5=>⟨lim.fresh _ d5,?_⟩) S.kind)
 .rw[XC.mp hy];exact S.par
 have hk:∀ b o,s.heap.get? b=some o->h1.get? b=some o:=λb o e=>d5.extBut b o (Yz (Yq e)) (WZ _ e);have I:Inv (Po P w K mg base [v,x] qual scope f (.ref c') [(x,c)] A outer s H) [] [some vv,some vx] H { s with heap:=h1,toks:=s.toks+[(v,u)].length }:=pR S hr.hd e0 hc rx pQ rv Uh hk
 refine PySem.W.kla_codeExpr (Tb (hb [] _ _ H _ I hq) (λu' s' h=>?_) λe s' h=>False.elim h);obtain⟨y,H',J,r,q⟩:=h;exact⟨u',rfl,y,H',J.os,J.bare,J.base,J.hok,r,q⟩
end
end L2
namespace My
open PySem PySem.W PyProof.Rows
def Asks{α:Type}(n:Nat)(R:α->Prop):KasT α->Prop
 | .ret a=>R a
 | .ask i j k=>i<n/\j<n/\∀ b,Asks n R (k b)
theorem Asks.bind{α β:Type}{R:α->Prop}{S:β->Prop}{f:α->KasT β}:∀ {t:KasT α},Asks n R t->(∀ a,R a->Asks n S (f a))->Asks n S (t.bind f)
 | .ret a,h,hf=>hf a h
 | .ask _ _ _,h,hf=>⟨h.1,h.2.1,λb=>Asks.bind (h.2.2 b) hf⟩
theorem goT_wp'{α:Type}{R:α->Prop}{c:Nat->Nat->Bool}{cmp:Nat->Nat->(Bool->Shared->Prop)->Shared->Prop}{J:Shared->Prop}(h:∀ i j C s,i<n->j<n->J s->(∀ s',J s'->C (c i j) s')->cmp i j C s){Q:α->Shared->Prop}:∀(t:KasT α) (s:Shared),Asks n R t->J s->(∀ s',J s'->Q (UM c t) s')->t.kasWp cmp Q s
 | .ret _,s,_,hs,q=>q s hs
 | .ask i j k,s,ha,hs,q=>h i j _ s ha.1 ha.2.1 hs λs' LX=>goT_wp' h (k (c i j)) s' (ha.2.2 _) LX q
section
variable{n:Nat}
def Bd(n:Nat)(p:Array Nat):Prop:=p.Perm (List.range n).toArray
theorem Bd.lt(h:Bd n p)(hn:1<=n)(i:Nat):p.getD i 0<n:=by
 by_cases hi:i<p.size
 .have e1:=MZ (p:=p) hi;rw[<- YS]at e1;exact YI.mp ((AI.mp h).mem_iff.mp (Xi e1))
 .rw[YC,Qy (by lia)];exact hn
theorem Bd.rev(h:Bd n p)(i j:Nat):Bd n (kas_rev p i j):=(mirror_perm _ _ _ _).trans h
theorem pO(hn:1<=n)(hp:Bd n p):∀ f m:Nat,Asks n (λ_=>True) (kas_asc p f m)
 | 0,m=>trivial
 | f+1,m=>⟨hp.lt hn _,hp.lt hn _,λb=>by
  cases b with
  | true=>exact trivial
  | false=>exact pO hn hp f (m+1)⟩
theorem yP(hn:1<=n):∀(f:Nat) (p:Array Nat) (m q:Nat),Bd n p->Asks n (λr=>Bd n r.1) (kas_desc f p m q)
 | 0,p,m,q,hp=>hp
 | f+1,p,m,q,hp=>⟨hp.lt hn _,hp.lt hn _,λb=>by
  cases b with
  | true =>
   show Asks n _ (if q > 0 then kas_desc f (kas_rev p (m - (q+1)) m) (m+1) 0 else kas_desc f p (m+1) 0);split
   .exact yP hn f _ _ _ (hp.rev _ _)
   .exact yP hn f _ _ _ hp
  | false =>
   refine⟨hp.lt hn _,hp.lt hn _,λd=>?_⟩;cases d with
   | true=>exact hp
   | false=>exact yP hn f _ _ _ hp⟩
theorem d4(hn:1<=n)(hp:Bd n p)(m r:Nat):Asks n (λz=>Bd n z.2) (kas_tail3 m r p) :=
 (pO hn (hp.rev _ _) _ _).bind λ_ _=>hp.rev _ _
theorem d3(hn:1<=n)(hp:Bd n p)(m r:Nat):Asks n (λz=>Bd n z.2) (kas_descPart m r p) :=
 (yP hn _ p _ _ hp).bind λz hz=>by
  split
  .exact d4 hn (hz.rev _ _) _ _
  .exact d4 hn hz _ _
theorem Zy7(hn:1<=n)(hp:Bd n p)(r:Nat):Asks n (λz=>Bd n z.2) (kas_count r p) :=
 (pO hn hp _ _).bind λz _=>by
  split
  .exact hp
  .split
   .refine⟨hp.lt hn _,hp.lt hn _,λb=>?_⟩;cases b with
    | true=>exact hp
    | false=>exact d3 hn (hp.rev _ _) _ _
   .exact d3 hn hp _ _
theorem pN(hn:1<=n)(hp:Bd n p)(k:Nat):∀ f l r:Nat,Asks n (λ_=>True) (kas_place p k f l r)
 | 0,l,r=>trivial
 | f+1,l,r=>by
  unfold kas_place;split
  .exact trivial
  .refine⟨hp.lt hn _,hp.lt hn _,λb=>?_⟩;cases b with
   | true=>exact pN hn hp k f _ _
   | false=>exact pN hn hp k f _ _
theorem dZ(hn:1<=n):∀(f:Nat) (p:Array Nat) (k:Nat),Bd n p->Asks n (λz=>Bd n z) (kas_bin f p k)
 | 0,p,k,hp=>hp
 | f+1,p,k,hp=>(pN hn hp k _ _ _).bind λl _=>dZ hn f _ _ ((bubble_perm _ _ _).trans hp)
theorem Rx(hn:1<=n):Asks n (λz=>Bd n z) (kas_sort n) :=
 (Zy7 hn (p:=(List.range n).toArray) (Array.Perm.refl _) n).bind λz hz=>by
  split
  .exact dZ hn _ _ _ hz
  .exact hz
end
end My
namespace L2
open PySem PySem.Spec PyProof.Rows PySem.W
def Sj(key:Int->Int)(ns ms:Ac):Prop:=∃ p:List Nat,p.Perm (List.range ns.length)/\p.Pairwise (My.Ahd λi=>key (ns.getD i 0))/\ms=p.map λi=>ns.getD i 0
section
variable{X:Cx}{pins:List (Addr × Obj)}{σ:St}{H:Hp}{s:Shared}{b:Addr}{o:Obj}
theorem Inv.pin1(I:Inv X pins σ H s)(F:FpOk X pins H b)(e:s.heap.get? b=some o)(hd:∀ v,o.data≠.cell v):Inv X (pins++[(b,o)]) σ H s:=I.pins_of λp hp=>by
 rcases Xr.mp hp with hp | hp
 .exact I.pin p (Yg _ hp)
 .rw[XC.mp hp];exact⟨e,F.1,F.2.1,F.2.2.1,hd⟩
theorem FpOk.more{pl:List (Addr × Obj)}(F:FpOk X pins H b)(hn:∀ p∈pl,p.1≠b):FpOk X (pins++pl) H b:=⟨F.1,F.2.1,F.2.2.1,F.2.2.2.1,F.2.2.2.2.1,λp hp=>by
 rcases Xr.mp hp with hp | hp
 .exact F.2.2.2.2.2 p (Ye _ hp)
 .rcases Xr.mp hp with hp | hp
  .exact F.2.2.2.2.2 p (Yg _ hp)
  .exact hn p hp⟩
theorem Inv.changed{h':Heap}{t':Nat}(I:Inv X pins σ H s)(F:FpOk X pins H b)(k:∀ c o,c≠b->s.heap.get? c=some o->h'.get? c=some o):Inv X pins σ H { s with heap:=h',toks:=t' } :=
 I.turned k F.1 F.2.1 F.2.2.2.1 F.2.2.2.2.1 F.2.2.2.2.2
theorem Inv.adopt(I:Inv X pins σ H s)(hex:X.ex=[])(F:FpOk X pins H b)(new:ObjOk X.prog X.w (upd H b u) s.heap b u):Inv X pins σ (upd H b u) s:=by
 have f4:X.s₀.heap.objs.size<=b:=F.2.2.2.1.resolve_left (by rw[hex];simp);have hn:=F.1
 refine⟨I.ok,I.os,I.bare,⟨I.base.keep,I.base.slot,λc o e n hc=>?_,I.base.there,λc xs q=>?_,λc o w q=>?_,λc ps q=>?_⟩,I.loc,I.cell,?_,λx c e=>?_,λp hp=>?_,λc w e=>?_,I.len⟩
 .rw[Za (Yz (Yw (Yq e) f4))];exact I.base.free c o e n hc
 .have:=I.base.tups c xs q
  rwa[Za (Zb this hn)]
 .have:=I.base.frzs c o w q
  rwa[Za (Zb this hn)]
 .obtain⟨m,this⟩:=I.base.tbls c ps q;exact⟨m,by rwa[Za (Zb this hn)]⟩
 .rw[Za (XG F.2.1)];exact I.free
 .rw[Za (F.2.2.2.2.1 x c e)];exact I.freeC x c e
 .have:=I.pin p hp
  exact⟨this.1,by rw[Za (F.2.2.2.2.2 p hp)];exact this.2.1,this.2.2⟩
 .by_cases hb:c=b
  .subst hb;rw[XS]at e;cases e;exact new
  .rw[Za hb]at e;exact(I.hok c w e).stay (λ_ _ _ q=>q) (λd q=>by rwa[Za (Zb q hn)]) λd xs q=>by rwa[Za (Zb q hn)]
end
section
variable{X:Cx}{pins:List (Addr × Obj)}{σ:St}{H:Hp}{s:Shared}{a kS:Addr}{A:Around}{E:Ae}{P:PySem.Fin->Shared->Prop}{kA:Array Value}{e e1:Nat}{ns:Ac}{vs:Ag}
theorem Dh {st:SortSt} {out:Ag} (I:Inv X (pins++[(a,seqObj "list" #[] e1),(kS,seqObj "list" kA e)]) σ H s) (Fa:FpOk X pins H a) (Fk:FpOk X pins H kS) (Oj:a≠kS) (hz:kA.size<64) (OG:failedOf st=none)
  (Jn:(arrOf st).map (·.2)=out.toArray) (hlen:out.length<64) (h:∀ s' m,Inv X pins σ H s'->s'.heap.get? a=some (seqObj "list" out.toArray m)->P (.done (.ret .none)) s') :
  wpAny (model X.prog X.w) A (ksk_tail a false e1 (.ref kS) st) P E s:=by
 have Ez:sizeLine=16777216:=Sx;have pa:=(I.pin (a,seqObj "list" #[] e1) (by simp)).1
 have pk:=(I.pin (kS,seqObj "list" kA e) (by simp)).1;have I0:Inv X pins σ H s:=I.unpinned
 have pM:(s.heap.update kS (Obj.mapSeq λ_=>(#[]:Array Value))).get? a=some (seqObj "list" #[] e1):=(QP _ _ (XG Oj)).trans pa;obtain⟨m,hm⟩:∃ m,((s.heap.update kS (Obj.mapSeq λ_=>(#[]:Array Value))).update a (Obj.mapSeq λ_=>out.toArray)).get? a=some (seqObj "list" out.toArray m):=⟨_,Ah pM λ_=>out.toArray⟩;unfold ksk_tail;dsimp only;rw[Jn];refine XT (KP pk rfl ?_ (by lia) (Yk _));refine XT (HQ ?_);refine XT (seqEpoch_at pM rfl ?_);refine XT (KP pM rfl ?_ (Yk _) (by simp;lia));rw[OG];simp only [bne_self_eq_false,GJ,KJ];refine Ym (h _ m ?_ hm);have I1:Inv X pins σ H { s with heap:=s.heap.update kS (Obj.mapSeq λ_=>(#[]:Array Value)),toks:=s.toks }:=I0.changed Fk λc o hc q=>(QP _ _ (XG hc)).trans q
 exact I1.changed (t':=s.toks) Fa λc o hc q=>(QP _ _ (XG hc)).trans q
theorem Jm:∀ {vs:Ag} {ns:Ac},IntsAre vs ns->∀ i,i<ns.length->∃ t,vs[i]?=some (.int (ns.getD i 0) t)
 | _,_,.nil,i,h=>absurd h (Wq _)
 | _,_,.cons n t r,0,h=>⟨t,rfl⟩
 | _,_,.cons n t r,i+1,h=>Jm r i (by rw[Yt]at h;lia)
end
def Hh(c:Addr)(qual:Str):HO:=.ext λh=>h.CodeRec (.ref c) qual
def TabH(H:Hp)(Pt:Addr)(pos:Pos)(qual:Str):Prop:=∃ ps:Array Value,H Pt=some (.tbl ps)/\TriplesOk ps.toList/\(codeAmong pos ps.toList=none\/∃ c,codeAmong pos ps.toList=some (.ref c)/\H c=some (Hh c qual))
def SameX(Pt:Addr)(H H':Hp):Prop:=∀ b o,b≠Pt->H b=some o->H' b=some o
theorem dY{c:Addr}(h1 h2:Heap)(r:h1.CodeRec (.ref c) qual)(k:∀ o,h1.get? c=some o->h2.get? c=some o):h2.CodeRec (.ref c) qual:=by obtain⟨c2,o,vs,t,e,g,r⟩:=r;cases e;exact⟨c,o,vs,t,rfl,k _ g,r⟩
section
variable{X:Cx}{pins:List (Addr × Obj)}{σ:St}{H:Hp}{s:Shared}{c Pt cc:Addr}{x:Str}{params:Arguments}{body:Expr}{scope:Scope}{pos:Pos}{E:Ae}{Q:Ae}
theorem Inv.builtinsAt(I:Inv X pins σ H s)(hB:X.base.BuiltinsAt X.mg Pt):s.heap.BuiltinsAt X.mg Pt:=by obtain⟨bm,o,h1,h2,h3,h4,h5,h6⟩:=hB;exact⟨bm,o,h1,h2,h3,h4,I.bk _ _ h5,h6⟩
theorem pL (I:Inv X pins σ H s) (UL:X.env.code=.ref c) (hC:codeHdIn X.K c Pt=true) (hB:X.base.BuiltinsAt X.mg Pt) (hT:TabH H Pt pos (X.env.qual++Str.ofString "<lambda>")) (Pw:closureFor scope X.env=pure [(x,cc)]) (Jl:defaultsOf params X.env=([],[])) (Dg:mainGlobals≠Pt)
  (h:∀ f c' pm Sk s' H',SameX Pt H H'->TabH H' Pt pos (X.env.qual++Str.ofString "<lambda>")->FpOk X pins H' f->Inv X pins σ H' s'->s'.heap.get? f=some (kla_obj (Str.ofString "<lambda>") (X.env.qual++Str.ofString "<lambda>") params body scope [(x,cc)] pm c' Sk)->H' c'=some (Hh c' (X.env.qual++Str.ofString "<lambda>"))->Q (.ref f) s') :
  wpAny (model X.prog X.w) X.A (eval (.Lambda params body scope pos) X.env) Q E s:=by
 obtain⟨ps,hP,Df,De⟩:=hT;have QQ:s.heap.get? Pt=some (tabObj ps):=I.hok Pt _ hP
 have Uh:s.heap.Ns mainGlobals X.mg:=I.mod.glob.keeps I.bk;have dX:=codeHd_of_K I.kIn hC
 refine kla_eval Jl ?_;rcases De with dW | ⟨c',hf,Wz⟩
 .refine kla_makeFunction Pw I.ok.glob Uh UL dX QQ Df dW Dg (I.builtinsAt hB) λc' Sk h' tk hx Pr Xe MX dU=>?_;have dS:Pt<s.heap.objs.size:=Yq QQ
  have yN:H c'=none:=I.hok.fresh Pr;have dR:c'≠Pt:=RY (Yw dS Pr)
  have keep:∀ b o,b≠Pt->s.heap.get? b=some o->(h'.push (kla_obj (Str.ofString "<lambda>") (X.env.qual++Str.ofString "<lambda>") params body scope [(x,cc)] ((X.mg "__name__").getD .none) c' Sk)).get? b=some o:=λb o hb e=>WZ _ (hx b o hb e);have sx:SameX Pt H (upd (upd H Pt (.tbl (ps++#[rawInt pos.line,rawInt pos.col,.ref c']))) c' (Hh c' (X.env.qual++Str.ofString "<lambda>"))):=λb o hb e=>by rwa[Za (Zb e yN),Za hb]
  have tb:TabH (upd (upd H Pt (.tbl (ps++#[rawInt pos.line,rawInt pos.col,.ref c']))) c' (Hh c' (X.env.qual++Str.ofString "<lambda>"))) Pt pos (X.env.qual++Str.ofString "<lambda>"):=by
   have et:(ps++#[rawInt pos.line,rawInt pos.col,Value.ref c']).toList=ps.toList++[rawInt pos.line,rawInt pos.col,.ref c']:=by simp
   refine⟨ps++#[rawInt pos.line,rawInt pos.col,.ref c'],by rw[Za (XG dR),XS],by rw[et];exact TriplesOk_snoc _ _ _ _ Df,.inr ⟨c',by rw[et];exact codeAmong_snoc _ Df dW,XS⟩⟩
  have Jk:∀ b,H b=none->b≠Pt:=λb n z=>by rw[z,hP]at n;cases n
  refine h h'.objs.size c' _ Sk _ _ sx tb ?_ (I.un ⟨λb o e n _ _=>keep b o (Jk b n) e,λb o e n _ _=>⟨o.slots,keep b o (Jk b n) e⟩,λb o e n _=>?_,λb o e _=>?_,λb xs e=>?_,λb o u e=>?_,λb qs e=>?_⟩ λb u e=>?_) (Yl _ rfl) XS
  .have pK:s.heap.objs.size<=h'.objs.size:=by lia
   refine I.fpOk pK ?_;rw[Za (RY Xe),Za (RY (Yw dS pK))];exact I.hok.fresh pK
  .rw[Za (Yz (Yw (Yq e) Pr)),Za (Jk b n)];exact n
  .by_cases hb:b=Pt
   .rw[hb];exact⟨_,WZ _ dU⟩
   .exact⟨o,keep b o hb e⟩
  .exact sx b _ (λz=>by rw[z,hP]at e;cases e) e
  .exact sx b _ (λz=>by rw[z,hP]at e;cases e) e
  .by_cases hb:b=Pt
   .subst hb;rw[hP]at e;obtain rfl:ps=qs:=by cases e;rfl
    exact⟨#[rawInt pos.line,rawInt pos.col,.ref c'],by rw[Za (XG dR),XS]⟩
   .exact⟨#[],by rw[sx b _ hb e];simp⟩
  .by_cases hb:b=c'
   .subst hb;rw[XS]at e;cases e;refine⟨dY _ _ MX λo g=>WZ _ g,?_,dY⟩;obtain⟨c2,o,_,_,e2,g,_⟩:=MX;cases e2;exact⟨o,WZ _ g⟩
   .rw[Za hb]at e;by_cases QO:b=Pt
    .subst QO;rw[XS]at e;cases e;exact WZ _ dU
    .rw[Za QO]at e;refine(I.hok b u e).stay (λd o hd g=>keep d o (λz=>?_) g) (λd g=>sx d _ (λz=>by rw[z,hP]at g;cases g) g) λd xs g=>sx d _ (λz=>by rw[z,hP]at g;cases g) g;rcases hd with hd | hd
     .exact QO (hd.symm.trans z)
     .rw[z,hP]at hd;cases hd
 .refine kla_makeFunctionHit Pw I.ok.glob Uh UL dX QQ Df hf (I.builtinsAt hB) λSk h' tk hk hsz=>?_;refine h h'.objs.size c' _ Sk _ H (λ_ _ _ e=>e) ⟨ps,hP,Df,.inr ⟨c',hf,Wz⟩⟩ (I.fpOk hsz (I.hok.fresh hsz)) (I.kept λb o e=>WZ _ (hk b o e)) (Yl _ rfl) Wz
end
section
variable{UT:Pos}{Pt:Addr}
theorem SqT.samex{K:Ad}{H H2:Hp}{a:Addr}{xs:List V}{qual:Str}(h:SqT K H a xs)(t:TabH H Pt UT qual)(sx:SameX Pt H H2):SqT K H2 a xs:=by
 obtain⟨ps,hP,_⟩:=t;rcases h with (h | ⟨o,h⟩) | h
 .exact .inl (.inl (sx _ _ (λz=>by rw[z,hP]at h;cases h) h))
 .exact .inl (.inr ⟨o,sx _ _ (λz=>by rw[z,hP]at h;cases h) h⟩)
 .exact .inr h
end
def Pn(Pt:Addr)(H:Hp):Prop:=H Pt=some (.tbl #[])/\∀ b,b=Pt\/H b=none\/∃ o xs,H b=some (.frz o (.lst xs))
theorem Zm8{P:Program}{w:World}{K:Ad}{mg mb:Af}{CX:OK}{k:Nat}{fa a Pt c:Addr}{fd:FuncData}{x:Str}{sp:Sp}{s₁:Shared}{vs:Ag}{ns:Ac}
  (KX:K.In s₁.heap) (Uh:s₁.heap.Ns mainGlobals mg) (hb:s₁.heap.Ns builtinsNs mb) (sH:∀ x:Str,x≠"__name__"->mb x=bootBuiltins x) (pJ:s₁.heap.NoLimit) (hg:s₁.gens=#[])
  (hT:s₁.heap.get? Pt=some (tabObj #[])) (hC:codeHdIn K c Pt=true) (pI:K.lookup Pt=none) (hbm:∃ bm ob,mg (Str.ofString "__builtins__")=some (.ref bm)/\bm≠builtinsNs/\s₁.heap.get? bm=some ob/\ob.cls=.type "module"/\ob.dict=some builtinsNs/\ob.data=.plain)
  (ha:s₁.heap.get? a=some { cls:=.type "list",data:=.seq vs.toArray }) (hi:IntsAre vs ns) (hl:ns.length<=sizeLine) (hr:Room k callerA)
  (F:∀ base:Heap,K.In base->base.Ns mainGlobals mg->base.BuiltinsAt mg Pt->FnOk P w K mg base CX k fa fd [x] sp) (TH:∀(s:Shared) (u:Value),BindsTo s fd ⟨[u],[]⟩ [(x,u)])
  (Ul:∀ H:Hp,Pn Pt H->SqL K H a (ns.map V.int)->sp [.ref a] H (λv _=>v=.bl true) λ_ _ _=>False)
  (pH:∀ H e s',CX [] H s₁ (λ_ _ _=>False) e s'->False) :
  codeAny (model P w) callerA (.call (.ref fa) ⟨[.ref a],[]⟩) (λr s'=>r=.ok (.ret (.bool true))/\OldK s₁.heap s'.heap/\s'.os=s₁.os/\AllBare s'.gens) s₁:=by
 have rv:=gZ hi;have pG:=hi.length
 have dQ:a≠Pt:=λz=>by rw[z,hT]at ha;cases ha
 have core:∀ H:Hp,Pn Pt H->SqL K H a (ns.map V.int)->HOk P w H s₁.heap->(∀ b,H b≠none->b=a\/b=Pt)->(H a≠none->K.lookup a=none) ->
   codeAny (model P w) callerA (.call (.ref fa) ⟨[.ref a],[]⟩) (λr s'=>r=.ok (.ret (.bool true))/\OldK s₁.heap s'.heap/\s'.os=s₁.os/\AllBare s'.gens) s₁:=by
  intro H hO hS hok hA hK;have base_of:∀ {b:Addr} {o:Obj},s₁.heap.get? b=some o->H b=none->(Vc s₁.heap H).get? b=some o:=λe n=>wW e n
  have free:∀ {b:Addr} {o:Obj},s₁.heap.get? b=some o->(∀ XW n,o.data≠.seq XW n)->(∀ vs,o.data≠.fields vs)->H b=none:=λ{b o} e d1 d2=>by
   cases q:H b with
   | none=>rfl
   | some u =>
    rcases hA b (by rw[q];simp) with e' | e'
    .subst e';rw[ha]at e;cases e;exact absurd rfl (d1 _ _)
    .subst e';rw[hT]at e;cases e;exact absurd rfl (d2 _)
  have yM:∀ {b:Addr} {m:Af},s₁.heap.Ns b m->(Vc s₁.heap H).Ns b m:=λ{b m} ⟨o,es,ep,e,d,r⟩=>⟨o,es,ep,base_of e (free e (λ_ _ z=>by rw[d]at z;cases z) λ_ z=>by rw[d]at z;cases z),d,r⟩;have dP:K.In (Vc s₁.heap H):=λb o e=>base_of (KX b o e) (by
   cases q:H b with
   | none=>rfl
   | some u =>
    rcases hA b (by rw[q];simp) with e' | e'
    .subst e';rw[hK (by rw[q];simp)]at e;cases e
    .subst e';rw[pI]at e;cases e)
  have hM:Mod K mg (Vc s₁.heap H):=⟨dP,yM Uh,⟨mb,yM hb,sH⟩,let ⟨mc,h1,h2⟩:=pJ;⟨mc,yM h1,h2⟩⟩;have hB:(Vc s₁.heap H).BuiltinsAt mg Pt:=by
   obtain⟨bm,ob,b1,b2,b3,b4,b5,b6⟩:=hbm;refine⟨bm,ob,b1,b2,λz=>?_,λz=>?_,base_of b3 (free b3 (λ_ _ z=>by rw[b6]at z;cases z) λ_ z=>by rw[b6]at z;cases z),b4,b5,b6⟩
   .obtain⟨o,es,ep,e,d,_⟩:=Uh;rw[z,e]at b3;cases b3;rw[d]at b6;cases b6
   .rw[z,hT]at b3;cases b3;cases b4
  have e0:Env0 P w K mg (Vc s₁.heap H) callerA [] s₁ H:=⟨rfl,hM,λb o e=>wV e,Nat.le_of_eq (aS _ _),trivial,λb hb=>absurd (show b∈([]:List Addr) from hb) (by simp),hok,.of_eq hg⟩;refine KR ((F _ dP (yM Uh) hB).run callerA [] s₁ H ⟨[.ref a],[]⟩ [.ref a] [.ref a] _ _ hr e0 (TH s₁ (.ref a)) (.cons rfl .nil) (Ul H hO hS)) λr s' h=>?_;cases r with
  | error e=>exact(pH H e s' h).elim
  | ok fl =>
   cases fl with
   | next=>exact False.elim h
   | brk=>exact False.elim h
   | cont=>exact False.elim h
   | ret u =>
    obtain⟨v,H',os,bare,un,Dc,r',q⟩:=h;have q':v=.bl true:=q
    subst q';obtain rfl:u=Value.bool true:=r';obtain⟨more,eP⟩:=un.tbls Pt #[] hO.1;have dO:s'.heap.get? Pt=some { cls:=.none,data:=.fields (#[]++more) }:=Dc Pt _ eP
    have kept:∀ b o,b≠Pt->s₁.heap.get? b=some o->s'.heap.get? b=some o:=λb o VY e=>by
     cases q:H b with
     | none=>exact un.keep b o e q (by intro z;exact absurd (show b∈([]:List Addr) from z) (by simp)) (by simp)
     | some u =>
      rcases hO.2 b with z | z | ⟨ob,xs,z⟩
      .exact absurd z VY
      .rw[q]at z;cases z
      .have z2:=un.frzs b ob _ z;obtain⟨e1,_⟩:=hok b _ z;obtain⟨e2,_⟩:=Dc b _ z2;rw[e]at e1;cases e1;exact e2
    refine⟨rfl,⟨λb o e=>?_,λb o e=>?_⟩,os,bare⟩
    .by_cases VY:b=Pt
     .subst VY;rw[hT]at e;obtain rfl:=Yi e;obtain⟨oc,vsc,_,_,_,_,_,_,_,c1,c2,c3,c4,_⟩:=codeHd_of_K KX hC;exact .inr (.inl ⟨⟨c,oc,vsc,c1,c2,c3,c4⟩,rfl,#[],more,rfl,dO⟩)
     .exact .inl (kept b o VY e)
    .by_cases VY:b=Pt
     .rw[VY];exact⟨_,dO⟩
     .exact⟨o,kept b o VY e⟩
 cases hk:K.lookup a with
 | some o =>
  have e:=KX a o hk;rw[ha]at e;cases e;refine core (λb=>if b=Pt then some (.tbl #[]) else none) ⟨if_pos rfl,λb=>?_⟩ (.inr ⟨_,vs.toArray,_,hk,rfl,rfl,rfl,by rw[Yb,pG];exact hl,by simpa using rv⟩) (λb u z=>?_) (λb z=>?_) λz=>absurd (if_neg dQ) z
  .by_cases VY:b=Pt
   .exact .inl VY
   .exact .inr (.inl (if_neg VY))
  .by_cases VY:b=Pt
   .have z':=(if_pos VY).symm.trans z;cases z';subst VY;exact hT
   .have z':=(if_neg VY).symm.trans z;cases z'
  .by_cases VY:b=Pt
   .exact .inr VY
   .exact absurd (if_neg VY) z
 | none =>
  refine core (λb=>if b=Pt then some (.tbl #[]) else if b=a then some (.frz { cls:=.type "list",data:=.seq vs.toArray } (.lst (ns.map V.int))) else none) ⟨if_pos rfl,λb=>?_⟩ (.inl (.inr ⟨{ cls:=.type "list",data:=.seq vs.toArray },(if_neg dQ).trans (if_pos rfl)⟩)) (λb u z=>?_) (λb z=>?_) λ_=>hk
  .by_cases VY:b=Pt
   .exact .inl VY
   .by_cases hb:b=a
    .exact .inr (.inr ⟨_,_,(if_neg VY).trans (if_pos hb)⟩)
    .exact .inr (.inl ((if_neg VY).trans (if_neg hb)))
  .by_cases VY:b=Pt
   .have z':=(if_pos VY).symm.trans z;cases z';subst VY;exact hT
   .by_cases hb:b=a
    .have z':=((if_neg VY).trans (if_pos hb)).symm.trans z;cases z';subst hb;exact⟨ha,by rw[Ya];exact hl,vs,_,rv,ha⟩
    .have z':=((if_neg VY).trans (if_neg hb)).symm.trans z;cases z'
  .by_cases VY:b=Pt
   .exact .inr VY
   .by_cases hb:b=a
    .exact .inl hb
    .exact absurd ((if_neg VY).trans (if_neg hb)) z
theorem Pm{l:PySem.W.OpenLaw}{n k:Nat}{q:Program}{loose:List Str}{XP:Af->Heap->Prop}{YP:World->Heap->Prop}{d:DefRec}{K:Params->Ad}{CX:OK}{sp:Ad->Sp}{x:Str}{c Pt:Addr}
  (hn:l.most=some n) (OL:n<=sizeLine) (uN:d.params.defaults=[]) (hr:Room k callerA)
  (hY:∀(w:World) (h:Heap),YP w h->(K w.params).In h/\h.get? Pt=some (tabObj #[])) (hC:∀ w:World,codeHdIn (K w.params) c Pt=true) (pI:∀ w:World,(K w.params).lookup Pt=none)
  (F:∀(w:World) (mg:Af) (fa:Addr) (h:Heap),(K w.params).In h->h.Ns mainGlobals mg->mg d.name=some (.ref fa) ->
   ∃ fd:FuncData,(∀(s:Shared) (u:Value),BindsTo s fd ⟨[u],[]⟩ [(x,u)]) /\
    ∀ base:Heap,(K w.params).In base->base.Ns mainGlobals mg->base.BuiltinsAt mg Pt->FnOk l.prog w (K w.params) mg base CX k fa fd [x] (sp (K w.params)))
  (Ul:∀(w:World) (H:Hp) (a:Addr) (ns:Ac),ns.length<=n->Pn Pt H->SqL (K w.params) H a (ns.map V.int)->sp (K w.params) [.ref a] H (λv _=>v=.bl true) λ_ _ _=>False)
  (pH:∀(H:Hp) (s:Shared) (e:Value) (s':Shared),CX [] H s (λ_ _ _=>False) e s'->False) :
  PySem.W.WalkO q loose XP YP l.row.toRowW d [] (λf vs=>PySem.call f vs):=by refine Att.TY hn uN λw s₀ s₁ mg mb fa o pm cd doc a vs ns G Y ho hd Tt Fj Kb hints hlen hg=>?_;obtain⟨KX,hT⟩:=hY w _ Y;obtain⟨fd,hb,hF⟩:=F w mg fa _ KX G.T.g Fj;exact Zm8 KX G.T.g G.T.b G.T.builtins G.T.nolimit hg hT (hC w) (pI w) G.T.bmain Kb hints (Yv hlen OL) hr hF hb (λH hO hS=>Ul w H a ns hlen hO hS) λH e s'=>pH H s₁ e s'
def Lw(K:Ad)(mg:Af)(base:Heap)(fd:FuncData)(Pt:Addr):Prop:=∃ c,fd.code=.ref c/\codeHdIn K c Pt=true/\base.BuiltinsAt mg Pt/\mainGlobals≠Pt
theorem LamScope.of(h1:sc.kind=.function)(h2:sc.isCoroutine=false)(h3:sc.isGenerator=false)(h4:sc.names=[(v,.local),(x,.free)]\/sc.names=[(x,.free),(v,.local)])(hn:v≠x):LamScope v x sc:=by
 have b1:(v == x)=false:=xp hn;have b2:(x == v)=false:=xp (XG hn)
 refine⟨h1,h2,h3,λy hy=>?_,?_,?_,λy hy=>?_,hn⟩
 .have l1:NameKind.local≠NameKind.cell:=by decide
  have l2:NameKind.free≠NameKind.cell:=by decide
  rcases h4 with e | e <;> rw[e]at hy <;> rcases Yh.mp hy with rfl | hy
  .exact l1
  .rw[XC.mp hy];exact l2
  .exact l2
  .rw[XC.mp hy];exact l1
 .rcases h4 with e | e <;> rw[e] <;> simp[List.lookup,b1,b2]
 .rcases h4 with e | e <;> rw[e] <;> simp[List.lookup,b1,b2]
 .rcases h4 with e | e <;> rw[e]at hy <;> simp only [List.lookup]at hy
  .split at hy
   .cases hy
   .split at hy
    .rename_i q;exact VT.mp q
    .cases hy
  .split at hy
   .rename_i q;exact VT.mp q
   .split at hy
    .cases hy
    .cases hy
section
variable{P:Program}{w:World}{K:Ad}{mg:Af}{base:Heap}
theorem Fun.okL{x qual:Str}{st:Stmt}{f c:Addr}{fd:FuncData}{N ps:List Str}{k:Nat}{sp:Sp}(F:Fun K x qual st f fd)(hc:fd.code=.ref c)(S:FnScope N ps (XD st))(len:∀ vs H Q E,sp vs H Q E->vs.length=ps.length)
  (TZ:∀(A:Around) (outer:List Env) (s:Shared) (H:Hp) (vs:List V) (Q:VK) (E:XK),Room k (A.deeper (envOfC qual (XD st) s.heap.objs.size f (.ref c)))->sp vs H Q E ->
   ∃ t,PSs (SU Xg P w K mg base N qual (XD st) f (.ref c) A outer s H E).nox (OI st) t/\t { nx:=λ_ H'=>Q .non H',rt:=Q } (start N vs) H):FnOk P w K mg base Xg (k+1) f fd ps sp:=by obtain⟨oc,od,kV,doc,pm,an,Xw,ct,Um,rfl,lk,Tt⟩:=F.ex;obtain rfl:Xw=.ref c:=hc;refine FF lk Tt S len λA outer s H vs Q E hr Ul=>?_;obtain⟨t,h,q⟩:=TZ A outer s H vs Q E hr Ul;exact⟨t,h.nox,q⟩
end
end L2
namespace My
open PySem L2
def pl(ls T U:Ac):Prop:=HT.ltP (DB ls T,T) (DB ls U,U)=true
def OrdL(ls:Ac)(m:Nat)(os:Ac):Prop:=os.Perm (VP m)/\os.Pairwise λx y=>Ju ls x<Ju ls y\/(Ju ls x=Ju ls y/\x<y)
theorem Jj(g:Zz n ps)(hT:Ze n ps T)(hW:Ze n ps W)(h:∀ z∈T,z∈W):T=W :=
 sP (zj hT) (zj hW) λz=>(ZI9 g hT hW h).mem_iff
structure Ent where
 T:Ac
 I:Ac
 O:Ac
deriving DecidableEq
end My
namespace L2
open PySem PySem.Spec PyProof.Rows PySem.W My
theorem SameX.same(s:Same H H'):SameX Pt H H':=λb o _ e=>s b o e
theorem SameX.trans{Pt:Addr}{H H1 H2:Hp}(a:SameX Pt H H1)(b:SameX Pt H1 H2):SameX Pt H H2:=λc o hc e=>b c o hc (a c o hc e)
theorem TabH.same(t:TabH H Pt pos qual)(s:Same H H'):TabH H' Pt pos qual:=by
 obtain⟨ps,h1,h2,h3⟩:=t;refine⟨ps,s _ _ h1,h2,?_⟩;rcases h3 with h | ⟨c,h,h'⟩
 .exact .inl h
 .exact .inr ⟨c,h,s _ _ h'⟩
theorem TabH.ne{Pt a:Addr}{o:HO}(t:TabH H Pt pos qual)(h:H a=some o)(hn:∀ ps,o≠.tbl ps):a≠Pt:=λe=>by obtain⟨ps,h1,_⟩:=t;rw[e,h1]at h;exact hn ps (Yi h).symm
theorem TabH.put{Pt r:Addr}{zs:List V}{u:List V}(t:TabH H Pt pos qual)(hr:H r=some (.lst zs)):TabH (upd H r (.lst u)) Pt pos qual:=by
 obtain⟨ps,h1,h2,h3⟩:=t;refine⟨ps,by rw[Za (VG h1 hr (by simp))];exact h1,h2,?_⟩;rcases h3 with h | ⟨c,h,h'⟩
 .exact .inl h
 .exact .inr ⟨c,h,by rwa[Za (VG h' hr (by unfold Hh;simp))]⟩
end L2
namespace My
open PySem L2
theorem SqK.samex(h:SqK kd K H a xs)(t:TabH H Pt pos qual)(sx:SameX Pt H H2):SqK kd K H2 a xs:=by
 cases kd with
 | true=>exact SqT.samex (show SqT K H a xs from h) t sx
 | false =>
  rcases(show SqL K H a xs from h) with (h | ⟨o,h⟩) | h
  .exact .inl (.inl (sx _ _ (t.ne h (by simp)) h))
  .exact .inl (.inr ⟨o,sx _ _ (t.ne h (by simp)) h⟩)
  .exact .inr h
theorem WebAt.samex(h:WebAt C H w n ps)(t:TabH H Pt pos qual)(sx:SameX Pt H H2):WebAt C H2 w n ps:=by obtain⟨dx,tl,xs,h1,h2,h3⟩:=h;refine⟨dx,tl,xs,sx _ _ (t.ne h1 (by simp)) h1,sx _ _ (t.ne h2 (by simp)) h2,h3.1,λi p hp=>?_⟩;obtain⟨x,hx,q,e,hq⟩:=h3.2 i p hp;exact⟨x,hx,q,e,sx _ _ (t.ne hq (by simp)) hq⟩
end My
namespace My
theorem SJ{α:Type}{P:List α->Prop}(h:∀ a,P [a])(l:List α)(e:l.length=1):P l:=by obtain⟨a,rfl⟩:=En e;exact h a
theorem UZ{α:Type}{P:List α->Prop}(h:∀ a b,P [a,b])(l:List α)(e:l.length=2):P l:=by obtain⟨a,b,rfl⟩:=Em e;exact h a b
theorem US{α:Type}{P:List α->Prop}(h:∀ a b c,P [a,b,c])(l:List α)(e:l.length=3):P l:=by obtain⟨a,b,c,rfl⟩:=El e;exact h a b c
theorem yL{α:Type}{P:List α->Prop}(h:∀ a b c d,P [a,b,c,d])(l:List α)(e:l.length=4):P l:=by obtain⟨a,b,c,d,rfl⟩:=Ek e;exact h a b c d
theorem un5{α:Type}{P:List α->Prop}(h:∀ a b c d e,P [a,b,c,d,e])(l:List α)(e:l.length=5):P l:=by
 cases l with
 | nil=>cases e
 | cons x r =>
  obtain⟨a,b,c,d,rfl⟩:=Ek (NY e);exact h x a b c d
end My
namespace My
open PySem L2
theorem dN(h:TC n ps c):c=0↔∀ T,¬ Ze n ps T:=by
 obtain⟨L,a1,a2,a3⟩:=h;constructor
 .intro e T hT;rw[e]at a3
  have:=(a2 T).mpr hT
  rw[YX.mp a3]at this;cases this
 .intro e;rw[<- a3,YX];exact AJ.mpr λT hT=>e T ((a2 T).mp hT)
end My
namespace L2
open PySem PySem.Spec PyProof.Rows PySem.W
theorem CZ:∀ bs:List Bool,(bs.map Value.bool).mapM firstOfTuple'=(pure ((bs.map Value.bool).map λ_=>none):Sem _)
 | []=>by simp
 | b :: bs=>by rw[WL,List.mapM_cons,CZ bs];show(pure none >>= λb=>pure _ >>= λbs=>pure (b :: bs))=_;simp
theorem dM:∀ bs:List Bool,(bs.map Value.bool).mapM typeOf=(pure ((bs.map Value.bool).map λ_=>Value.type "bool"):Sem _)
 | []=>by simp
 | b :: bs=>by rw [WL,List.mapM_cons,dM bs];show(pure (Value.type "bool") >>= λb=>pure _ >>= λbs=>pure (b :: bs))=_;simp
theorem pF{ns:Ac}{key:Int->Bool}(hk:kA.toList=ns.map λz=>Value.bool (key z))(h2:2<=ns.length):keyKind' kA=pure oneType':=by
 have e:kA=((ns.map key).map Value.bool).toArray:=by rw[<- Array.toArray_toList (xs:=kA),hk,Mm];rfl
 rw[e];obtain⟨b1,b2,bs,eb⟩:∃ b1 b2 bs,ns.map key=b1 :: b2 :: bs:=by
  match ns,h2 with
  | x :: y :: l,_=>exact⟨_,_,_,rfl⟩
 rw[eb,keyKind'_eq,List.mapM_toArray,CZ];simp only [map_pure,pure_bind];rw[if_neg (by simp),if_neg (by simp)];rw[oneTypeOnly'_eq,List.mapM_toArray,dM];simp only [map_pure,pure_bind];have Wm:((List.map (λ_=>Value.type "bool") (List.map Value.bool (b1 :: b2 :: bs))).toArray.all λx=>x == Value.type "bool")=true:=by simp only [List.all_toArray,List.all_map,Sb];intro _ _;rfl
 have h0:(List.map (λ_=>Value.type "bool") (List.map Value.bool (b1 :: b2 :: bs))).toArray[0]?=some (Value.type "bool"):=by simp
 rw[h0];simp only [Wm,OO,pure_bind,Option.isSome_some]
theorem pE{E:Ae}{s:Shared}{Q:Bool->Shared->Prop}(h:Q (decide (b2i p<b2i q)) s):wpAny (model prog w) A (keyLt' oneType' (.bool p) (.bool q)) Q E s:=by rw[keyLt'_oneType,oneLt'_eq];simp only [OO];refine XT (wpAny_cRoomFor_byValue rfl ?_);refine XT (wpAny_callSpecialIfBound?_slot (typeIs_bool' s p) F.slot_bool_lt (call_gives F.slot_bool_lt (typeIs_bool' s p) F.entry_int_lt (F.args_int_lt_2 _ _) (gives_int_lt_bools p q) ?_));exact QF h
section
variable{X:Cx}{pins:List (Addr × Obj)}{σ:St}{H:Hp}{s:Shared}{a kS:Addr}{A:Around}{E:Ae}{P:PySem.Fin->Shared->Prop}{kA:Array Value}{e e1:Nat}{f:Value}{key:Int->Bool}{ns:Ac}{vs:Ag}
theorem pD(hv:IntsAre vs ns)(hk:kA.toList=ns.map λz=>Value.bool (key z))(hi:i<ns.length):∃ u,kas_item (kA.zip vs.toArray) i=(.bool (key (ns.getD i 0)),.int (ns.getD i 0) u):=by
 obtain⟨u,hu⟩:=Jm hv i hi;have ht:kA.toList[i]?=some (Value.bool (key (ns.getD i 0))):=by rw[hk,Yn,WO,Xu hi];rfl
 refine⟨u,?_⟩;unfold kas_item;rw[YC,<- YS,ksk_zip,(List.getElem?_zip_eq_some (z:=(Value.bool (key (ns.getD i 0)),Value.int (ns.getD i 0) u))).mpr ⟨ht,hu⟩];rfl
theorem CY(hv:IntsAre vs ns)(hk:kA.toList=ns.map λz=>Value.bool (key z)):∀ l:List Nat,(∀ i∈l,i<ns.length)->IntsAre (l.map λi=>(kas_item (kA.zip vs.toArray) i).2) (l.map λi=>ns.getD i 0)
 | [],_=>.nil
 | i :: l,h=>by
  obtain⟨u,e⟩:=pD hv hk (h i Yc);have r:=CY hv hk l λj hj=>h j (Yf _ hj)
  rw[WL,WL,e];exact .cons _ u r
theorem pC (I:Inv X (pins++[(a,seqObj "list" #[] e1),(kS,seqObj "list" kA e)]) σ H s) (Fa:FpOk X pins H a) (Fk:FpOk X pins H kS) (Oj:a≠kS) (hv:IntsAre vs ns) (QU:ns.length<64) (hk:kA.toList=ns.map λz=>Value.bool (key z))
  (h:∀ s' m out ms,Inv X pins σ H s'->s'.heap.get? a=some (seqObj "list" out m)->IntsAre out.toList ms->Sj (λz=>b2i (key z)) ns ms->P (.done (.ret .none)) s') :
  wpAny (model X.prog X.w) A (ksk_end a false vs.toArray e1 (.ref kS) kA) P E s:=by
 have CW:=hv.length;have hkl:=Xx List.length hk
 rw[YB,Ya]at hkl;have hzs:(kA.zip vs.toArray).size=ns.length:=by rw[Array.size_zip,show vs.toArray.size=vs.length from Yb];grind
 unfold ksk_end;dsimp only;rw[if_neg (by decide)];by_cases h2:vs.toArray.size<2
 .rw[if_pos h2,if_pos h2];rw[Yb]at h2;refine XT (Ym ?_);rw[StateT.run_pure];refine XT (Ym ?_);dsimp only;refine Dh (out:=vs) I Fa Fk Oj (by lia) rfl ?_ (by grind) λs' m J e=>h s' m vs.toArray ns J e (by simpa using hv) ?_
  .show(if false=true then (kA.zip vs.toArray).reverse else kA.zip vs.toArray).map (·.2)=vs.toArray;rw[if_neg (by decide),Array.map_snd_zip (by rw[Yb];lia)]
  .refine⟨List.range ns.length,List.Perm.refl _,?_,?_⟩
   .match ns.length,(show ns.length<2 by lia) with
    | 0,_=>exact List.Pairwise.nil
    | 1,_=>exact QC _ _
   .match ns,(show ns.length<2 by omega) with
    | [],_=>rfl
    | [x],_=>rfl
 .rw[if_neg h2,if_neg h2];rw[Yb]at h2;rw[pF hk (by lia)];refine XT (Ym ?_);rw[if_neg (by decide)];obtain⟨p,Vx,Wg,Si⟩:=My.MY (n:=ns.length) (key:=λi=>b2i (key (ns.getD i 0))) (by lia);have runs:=kas_runs (prog:=X.prog) (w:=X.w) (A:=A) (E:=E) (κ:=oneType') (it:=kA.zip vs.toArray) (n:=ns.length) (s:=s) (Q:=λ_ st s'=>s'=s/\failedOf st=none/\arrOf st=p.map (kas_item (kA.zip vs.toArray)))
   (G:=λq s'=>s'=s/\q=p) (by omega) QU (λq st s' _ e2 e3 e4=>⟨e4.1,e3,by rw[e2,e4.2]⟩)
   (My.goT_wp' (c:=λi j=>decide (b2i (key (ns.getD i 0))<b2i (key (ns.getD j 0)))) (J:=λs'=>s'=s) (λi j C s' hi hj hs hC=>by obtain⟨u,e⟩:=pD hv hk hi;obtain⟨u',e'⟩:=pD hv hk hj;unfold kas_cmp;rw[e,e'];exact pE (hC s' hs)) _ s (My.Rx (by omega)) rfl λs' hs=>⟨hs,Vx⟩)
  unfold kasC kas_st at runs;rw[<- hzs,kas_range]at runs;refine XT (Tb runs ?_ λ_ _ z=>z);rintro⟨⟨⟩,st⟩ s' ⟨rfl,hf,ha⟩;dsimp only;have hb:∀ i∈p.toList,i<ns.length:=λi hi=>YI.mp (Wg.mem_iff.mp hi)
  have UQ:p.toList.length=ns.length:=by rw[Wg.length_eq,OQ]
  refine Dh (out:=p.toList.map λi=>(kas_item (kA.zip vs.toArray) i).2) I Fa Fk Oj (by lia) hf ?_ (by rw[Ya];lia) λTq m J e=>h Tq m _ _ J e (by simpa using CY hv hk p.toList hb) ⟨p.toList,Wg,Si,rfl⟩;have ha:arrOf st=p.map (kas_item (kA.zip vs.toArray)):=ha
  rw[ha,Array.map_map];exact Array.toList_inj.mp (by simp)
theorem Zo8 (I:Inv X (pins++[(a,seqObj "list" #[] e1),(kS,seqObj "list" #[] 0)]) σ H s) (Fa:FpOk X pins H a) (Fk:FpOk X pins H kS) (Oj:a≠kS) (hv:IntsAre vs ns) (QU:ns.length<64)
  (turn:∀(pl:List (Addr × Obj)) (z:Int) (t:Tok) (s':Shared),z∈ns->Inv X (pins++pl) σ H s'->wpAny (model X.prog X.w) A (call f [.int z t]) (λv Tq=>v=.bool (key z)/\Inv X (pins++pl) σ H Tq) (λ_ _=>False) s')
  (h:∀ s' m out ms,Inv X pins σ H s'->s'.heap.get? a=some (seqObj "list" out m)->IntsAre out.toList ms->Sj (λz=>b2i (key z)) ns ms->P (.done (.ret .none)) s') :
  wpAny (model X.prog X.w) A (ksk_rest a f false vs.toArray e1 (.ref kS)) P E s:=by
 have Ez:sizeLine=16777216:=Sx;have CW:=hv.length
 unfold ksk_rest;refine XT (Gs ?_);rw[<- Array.forIn_toList];simp only [List.toList_toArray];refine XT (ksk_fold (λi s'=>∃(kA:Array Value) (e:Nat),Inv X (pins++[(a,seqObj "list" #[] e1),(kS,seqObj "list" kA e)]) σ H s'/\kA.toList=(ns.take i).map λz=>Value.bool (key z)) vs 0 s ⟨#[],0,I,rfl⟩ ?step ?done)
 case step =>
  rintro j x s' hx ⟨kA,e,J,hk⟩;rw[NZ]at hk ⊢;have hj:j<ns.length:=by rw[<- CW];exact(Xm.mp hx).1
  obtain⟨t,ht⟩:=Jm hv j hj;rw[hx]at ht;obtain rfl:=Yi ht;have hz:kA.size<=j:=by have h1:=Xx List.length hk;rw[YB,Ya,Yj]at h1;lia
  have eg:ns.getD j 0=ns[j]:=by rw[WO,Xu hj];rfl
  have hmem:ns.getD j 0∈ns:=by rw[eg];exact Oc hj
  refine XT (Gv (Tb (turn _ _ t s' hmem J) (λv Tq he=>?_) λ_ _ hF=>hF.elim));obtain⟨rfl,J2⟩:=he;dsimp only;have pk:=(J2.pin (kS,seqObj "list" kA e) (by simp)).1
  obtain⟨c2,VL⟩:∃ c2,(Tq.heap.update kS (Obj.mapSeq (·.push (.bool (key (ns.getD j 0)))))).get? kS=some (seqObj "list" (kA.push (.bool (key (ns.getD j 0)))) c2):=⟨_,Ah pk (·.push (.bool (key (ns.getD j 0))))⟩;refine XT (KP pk rfl ?_ (by lia) (by rw[Array.size_push];lia));refine Ym ⟨rfl,kA.push (.bool (key (ns.getD j 0))),c2,?_,?_⟩
  .have J3:Inv X (pins++[(a,seqObj "list" #[] e1)]) σ H Tq:=J2.pins_of λp hp=>J2.pin p (Yg _ (by
    rcases Xr.mp hp with hp | hp
    .exact Ye _ hp
    .exact Yg _ (by rw[XC.mp hp];exact Yc)))
   have dJ:FpOk X (pins++[(a,seqObj "list" #[] e1)]) H kS:=Fk.more λp hp=>by rw [XC.mp hp];exact Oj
   have J4:=(J3.changed (t':=Tq.toks) dJ λc o hc q=>(QP Tq.heap (Obj.mapSeq (·.push (.bool (key (ns.getD j 0))))) (XG hc)).trans q).pin1 dJ VL λv z=>by cases z
   rwa[Rc]at J4
  .have ek:((ns.take (j+1)).map λz=>Value.bool (key z))=((ns.take j).map λz=>Value.bool (key z))++[Value.bool (key (ns.getD j 0))]:=by rw[List.take_add_one,Xu hj,YJ,eg];rfl
   rw[xA,ek,hk]
 case done =>
  rintro s' ⟨kA,e,J,hk⟩;rw[NZ,CW,YA]at hk;have pk:=(J.pin (kS,seqObj "list" kA e) (by simp)).1
  refine XT (listItems_at pk rfl ?_);exact pC J Fa Fk Oj hv QU hk h
theorem Zn8 (I:Inv X pins σ H s) (Fa:FpOk X pins H a) (ho:s.heap.get? a=some (seqObj "list" vs.toArray n)) (hv:IntsAre vs ns) (QU:ns.length<64)
  (turn:∀(pl:List (Addr × Obj)) (z:Int) (t:Tok) (s':Shared),z∈ns->Inv X (pins++pl) σ H s'->wpAny (model X.prog X.w) A (call f [.int z t]) (λv Tq=>v=.bool (key z)/\Inv X (pins++pl) σ H Tq) (λ_ _=>False) s')
  (h:∀ s' m out ms,Inv X pins σ H s'->s'.heap.get? a=some (seqObj "list" out m)->IntsAre out.toList ms->Sj (λz=>b2i (key z)) ns ms->P (.done (.ret .none)) s') :
  wpAny (model X.prog X.w) A (ksk_tree a f false) P E s:=by
 have Ez:sizeLine=16777216:=Sx;have CW:=hv.length
 obtain⟨e1,dI⟩:∃ e1,(s.heap.update a (Obj.mapSeq λ_=>(#[]:Array Value))).get? a=some (seqObj "list" #[] e1):=⟨_,Ah ho λ_=>#[]⟩;have I1:Inv X pins σ H { s with heap:=s.heap.update a (Obj.mapSeq λ_=>(#[]:Array Value)),toks:=s.toks }:=I.changed Fa λc o hc q=>(QP _ _ (XG hc)).trans q
 have I2:Inv X pins σ H { s with heap:=(s.heap.update a (Obj.mapSeq λ_=>(#[]:Array Value))).push (seqObj "tuple" vs.toArray 0),toks:=s.toks }:=I1.kept λc o q=>WZ _ q;have Uk:((s.heap.update a (Obj.mapSeq λ_=>(#[]:Array Value))).push (seqObj "tuple" vs.toArray 0)).get? a=some (seqObj "list" #[] e1):=WZ _ dI
 unfold ksk_tree;refine XT (listItems_at ho rfl ?_);refine XT (KP ho rfl ?_ (by rw[Yb];lia) (Yk _));refine XT (seqEpoch_at dI rfl ?_);refine XT (wpAny_newTuple ?_ (by show vs.length<=_;omega));refine XT (HS ?_ (Yk _));refine Td ?_;have Fk:FpOk X pins H ((s.heap.update a (Obj.mapSeq λ_=>(#[]:Array Value))).push (seqObj "tuple" vs.toArray 0)).objs.size:=I2.fpOk (XJ _) (I2.hok.fresh (XJ _))
 have Oj:a≠((s.heap.update a (Obj.mapSeq λ_=>(#[]:Array Value))).push (seqObj "tuple" vs.toArray 0)).objs.size:=Yz (Yq Uk);have I3:Inv X pins σ H { s with heap:=((s.heap.update a (Obj.mapSeq λ_=>(#[]:Array Value))).push (seqObj "tuple" vs.toArray 0)).push (seqObj "list" #[] 0),toks:=s.toks }:=I2.kept λc o q=>WZ _ q
 have I4:=(I3.pin1 Fa (WZ _ Uk) λv z=>by cases z).pin1 (Fk.more (pl:=[(a,seqObj "list" #[] e1)]) λp hp=>by rw [XC.mp hp];exact Oj) (Yl _ rfl) λv z=>by cases z
 rw[Rc]at I4;exact Zo8 I4 Fa Fk Oj hv QU turn h
theorem ZH5{tp q:Addr}{Q:Ae}(I:Inv X pins σ H s)(ht:s.heap.IsList tp vs.toArray)(hv:IntsAre vs ns)(QU:ns.length<64)
  (turn:∀(pl:List (Addr × Obj)) (z:Int) (t:Tok) (s':Shared),z∈ns->Inv X (pins++pl) σ H s'->wpAny (model X.prog X.w) A.in1.in1 (call (.ref q) [.int z t]) (λv Tq=>v=.bool (key z)/\Inv X (pins++pl) σ H Tq) (λ_ _=>False) s')
  (h:∀ s' a m out ms,FpOk X pins H a->Inv X pins σ H s'->s'.heap.get? a=some (seqObj "list" out m)->IntsAre out.toList ms->Sj (λz=>b2i (key z)) ns ms->Q (.ref a) s') :
  wpAny (model X.prog X.w) A (call (.builtin "sorted") [.ref tp] [(Str.ofString "key",.ref q)]) Q E s:=by
 have Ez:sizeLine=16777216:=Sx;have CW:=hv.length
 refine call_function_entry_kw kind_sorted plain_sorted entry_sorted (ksk_s1 _ _) ?_;unfold Builtin.«sorted»;refine XT (m:=checkCount "sorted" 1 1 _) (Ym ?_);refine XT (collect_list ht ?_ (by omega));refine XT (HS ?_ (by omega));have hsz:((s.heap.push (seqObj "list" #[] 0)).update s.heap.objs.size (Obj.mapSeq (·++vs.toArray))).objs.size=s.heap.objs.size+1:=by rw[Heap.size_update,size_push']
 have Kw:(((s.heap.push (seqObj "list" #[] 0)).update s.heap.objs.size (Obj.mapSeq (·++vs.toArray))).push (seqObj "list" vs.toArray 0)).get? (s.heap.objs.size+1)=some (seqObj "list" vs.toArray 0):=by rw[<- hsz];exact Yl _ rfl
 have keep:∀ b o,s.heap.get? b=some o->(((s.heap.push (seqObj "list" #[] 0)).update s.heap.objs.size (Obj.mapSeq (·++vs.toArray))).push (seqObj "list" vs.toArray 0)).get? b=some o:=λb o q=>by have Xe:b<s.heap.objs.size:=Yq q;exact WZ _ ((QP _ _ (RY Xe)).trans (WZ _ q))
 show wpAny _ _ _ _ _ { s with heap:=((s.heap.push (seqObj "list" #[] 0)).update s.heap.objs.size (Obj.mapSeq (·++vs.toArray))).push (seqObj "list" vs.toArray 0) };rw[hsz];have Fa:FpOk X pins H (s.heap.objs.size+1):=I.fpOk (Uq _) (I.hok.fresh (Uq _))
 refine XT (Td (wpAny_call_entry_kw slot_list_sort ⟨_,Kw,rfl⟩ entry_list_sort ?body (ksk_l1 _ _)));show wpAny (model X.prog X.w) A.in1.in1 (Builtin.«list.sort» ⟨[.ref (s.heap.objs.size+1)],[(Str.ofString "key",.ref q)]⟩) _ _ _
 rw[ksk_t1];refine Zn8 (s:={ s with heap:=((s.heap.push (seqObj "list" #[] 0)).update s.heap.objs.size (Obj.mapSeq (·++vs.toArray))).push (seqObj "list" vs.toArray 0),toks:=s.toks }) (I.kept keep) Fa Kw hv QU turn λs' m out ms J e hi hs=>⟨_,rfl,?_⟩;exact Ym ⟨_,rfl,h s' _ m out ms Fa J e hi hs⟩
end
def pB(K:Ad)(Pt:Addr)(UT:Pos)(qual:Str)(i:Nat)(te tb:TE):TE:=λσ H Q=>te σ H λy H1=>∃(p:Addr) (ns:Ac) (vx:V) (key:Int->Bool),y=.ref p/\SqL K H1 p (ns.map V.int)/\ns.length<64/\TabH H1 Pt UT qual/\σ[i]?=some (some vx) /\
 (∀ H2,SameX Pt H1 H2->∀ z∈ns,tb [some (.int z),some vx] H2 λr H3=>r=.bl (key z)/\H3=H2) /\
 ∀(ms:Ac) (l:Addr) (H2:Hp),Sj (λz=>b2i (key z)) ns ms->SameX Pt H1 H2->TabH H2 Pt UT qual->H2 l=none->Q (.ref l) (upd H2 l (.lst (ms.map V.int)))
section
variable{X:Cx}{p kp pos UT:Pos}{e body:Expr}{params:Arguments}{scope:Scope}{te tb:TE}{v x:Str}{i k:Nat}{c Pt cc:Addr}
theorem SqL.samexT{K:Ad}{H H2:Hp}{a:Addr}{xs:List V}{qual:Str}(h:SqL K H a xs)(t:TabH H Pt UT qual)(sx:SameX Pt H H2):SqL K H2 a xs:=by
 obtain⟨ps,hP,_⟩:=t;rcases h with (h | ⟨o,h⟩) | h
 .exact .inl (.inl (sx _ _ (λz=>by rw[z,hP]at h;cases h) h))
 .exact .inl (.inr ⟨o,sx _ _ (λz=>by rw[z,hP]at h;cases h) h⟩)
 .exact .inr h
theorem ZL5 (he:PE X e te) (hg:Gl X (Str.ofString "sorted")) (hm:X.mg (Str.ofString "sorted")=none) (hr:Room (k+3) X.A) (hex:X.ex=[]) (UL:X.env.code=.ref c) (hC:codeHdIn X.K c Pt=true) (hB:X.base.BuiltinsAt X.mg Pt) (Dg:mainGlobals≠Pt)
  (S:LamScope v x scope) (Pw:closureFor scope X.env=pure [(x,cc)]) (Jl:defaultsOf params X.env=([],[])) (TH:∀(c':Addr) (pm Sk u:Value),bindArgs (kla_fn (Str.ofString "<lambda>") (X.env.qual++Str.ofString "<lambda>") params body scope [(x,cc)] pm (.ref c') Sk) ⟨[u],[]⟩=pure [(v,u)])
  (hi:X.N[i]?=some x) (dH:X.env.kindOf x=some .cell) (Wj:X.env.cells.lookup x=some cc)
  (hb:∀(f c':Addr) (A:Around) (outer:List Env) (s:Shared) (H:Hp),Room k (A.deeper (envX (X.env.qual++Str.ofString "<lambda>") scope s.heap.objs.size f (.ref c') [(x,cc)]))->PE (Po X.prog X.w X.K X.mg X.base [v,x] (X.env.qual++Str.ofString "<lambda>") scope f (.ref c') [(x,cc)] A outer s H) body tb) (hs:starEach [e] X.env=[(false,eval e X.env)]:=by rfl) :
  PE X (.Call (.Name (Str.ofString "sorted") p) [e] [⟨some (Str.ofString "key"),.Lambda params body scope UT,kp⟩] pos) (pB X.K Pt UT (X.env.qual++Str.ofString "<lambda>") i te tb):=by
 intro pins s σ H Q I h;refine OS (QZ I hg hm Boot.«sorted» ?_ (by decide) (by decide));have ha:PA X [e] (Kj te Kk):=XY he XX hs
 refine callWith_kw (thn (ha pos pins s σ H (λvs H1=>match vs with
  | [y]=>∃(p:Addr) (ns:Ac) (vx:V) (key:Int->Bool),y=.ref p/\SqL X.K H1 p (ns.map V.int)/\ns.length<64/\TabH H1 Pt UT (X.env.qual++Str.ofString "<lambda>")/\σ[i]?=some (some vx) /\
   (∀ H2,SameX Pt H1 H2->∀ z∈ns,tb [some (.int z),some vx] H2 λr H3=>r=.bl (key z)/\H3=H2) /\
   ∀(ms:Ac) (l:Addr) (H2:Hp),Sj (λz=>b2i (key z)) ns ms->SameX Pt H1 H2->TabH H2 Pt UT (X.env.qual++Str.ofString "<lambda>")->H2 l=none->Q (.ref l) (upd H2 l (.lst (ms.map V.int)))
  | _=>False) I h) λus s1 hh=>?_) (by rw[hs];rfl) (by rw[hs];rfl) rfl rfl
 obtain⟨vs,H1,I1,r,q⟩:=hh
 match vs,r,q with
 | [],_,q=>exact False.elim q
 | _ :: _ :: _,_,q=>exact False.elim q
 | [y],r,q =>
  obtain⟨p2,ns,vx,key,rfl,hq,QU,hT,hσ,hk,q⟩:=q;obtain⟨u,rfl,ru⟩:=WJ r;obtain rfl:u=Value.ref p2:=ru;refine kws_cons (pL I1 UL hC hB hT Pw Jl Dg λf c' pm Sk s2 H2 sx tab F I2 hf Wz=>kws_nil ?_);have I3:=I2.pin1 F hf λv z=>by cases z
  have LJ:=SqL.samexT hq hT sx;obtain⟨XW,rv,g1,hz⟩:=I2.list LJ;have hv:=ZL rv
  refine ZH5 I3 g1.isList hv QU (key:=key) (λpl z t s3 hmem J=>?_) λs3 a m out ms Fa J MW Jn VE=>?_
  .-- the lambda called
   have Qd:s3.heap.get? f=some (kla_obj (Str.ofString "<lambda>") (X.env.qual++Str.ofString "<lambda>") params body scope [(x,cc)] pm c' Sk):=(J.pin (f,_) (Yg _ (Ye _ (Yg _ Yc)))).1;obtain⟨mm,_,pz⟩:=J.loc;obtain⟨ux,rx,CV⟩:=pz i x vx hi hσ (.inr (.inl dH));have Sw:s3.heap.IsCell cc (some ux):=by
    rcases CV with ⟨kz,_⟩ | ⟨_,c2,e2,VL⟩
    .rw[dH]at kz;cases kz
    .rw[Wj]at e2;cases e2;exact VL
   have MX:s3.heap.CodeRec (.ref c') (X.env.qual++Str.ofString "<lambda>"):=(J.hok c' _ Wz).1;have Vy:Room (k+1) X.A.in1.in1:=(hr.in1).in1
   refine Gr (KR (pP (u:=.int z t) (vv:=.int z) S Vy J.env0.in1.in1 Qd MX (TH c' pm Sk _) Sw rx (J.freeC x cc Wj) ⟨t,rfl⟩ (hb f c' _ _ s3 H2 (Vy.deeper _)) (hk H2 sx z hmem)) λrr s4 hh=>?_);obtain⟨u',rfl,ce⟩:=hh;obtain⟨v',H',J',su,e1,e2⟩:=J.after ce;subst e1 e2;obtain rfl:=su;exact⟨rfl,J'⟩
  .have J0:Inv X pins σ H2 s3:=J.unpinned;have Fa0:FpOk X pins H2 a:=⟨Fa.1,Fa.2.1,Fa.2.2.1,Fa.2.2.2.1,Fa.2.2.2.2.1,λp hp=>Fa.2.2.2.2.2 p (by
    rcases Xr.mp hp with hp | hp
    .exact Ye _ hp
    .exact Yg _ (Ye _ hp))⟩
   have Ov:ms.length=ns.length:=by obtain⟨pp,h1,_,rfl⟩:=VE;rw[Ya,h1.length_eq,OQ]
   refine⟨.ref a,_,J0.adopt hex Fa0 (u:=.lst (ms.map V.int)) ⟨?_,out.toList,m,PQ Jn,by simpa using MW⟩,rfl,q ms a H2 VE sx tab Fa.1⟩;rw[Ya,Ov]
   have:sizeLine=16777216:=Sx
   lia
end
abbrev Rw:List (Str × Value):=[(Str.ofString "default",.none)]
section
variable{prog:Program}{w:World}{A:Around}{I S:Addr}{fp wr:List Addr}{n:Nat}{P:Nat->Value->Prop}{St:Nat->Heap->Prop}{R:Result->Shared->Prop}
theorem Zh8(W:Walks prog w A.in1 I fp wr n P St)(lt:Nat->Nat->Bool)(C:Heap->Prop)(ck:∀ h h',C h->(∀ b o,b≠S->b∉wr->h.get? b=some o->h'.get? b=some o)->C h')(cc:∀(s:Shared) (i j:Nat) (v u:Value) (E:Ae) (Q:Ae),C s.heap->i≠j->P i v->P j u->Q (.bool (lt i j)) s->wpAny (model prog w) A.in1 (compareOp .Lt v u) Q E s)(SN:S∉fp):∀(k j:Nat) (s:Shared) (vb:Value) (c:Nat),n - (j+1)=k->j+1<=n->St (j+1) s.heap->P (argBest lt j) vb->C s.heap ->
  s.heap.get? S=some { cls:=.type "list",dict:=none,data:=.seq #[vb,vb] c,slots:=#[] } ->
  (∀ v h' tk,P (argBest lt (n - 1)) v->(∀ b o,b≠S->b∉wr->s.heap.get? b=some o->h'.get? b=some o)->R (.ok (.ret v)) { s with heap:=h',toks:=tk }) ->
  codeAny (model prog w) A (.builtin "min.loop" ⟨[.ref I,.none,.ref S],Rw⟩) R s:=by
 have yK:S∉wr:=λh=>SN (W.sub _ h);have nm:(toString "min"++toString ".loop":String)="min.loop":=by decide
 intro k
 induction k with
 | zero =>
  intro j s vb c hk hj st pb ta hS hR;have ej:j+1=n:=by grind
  refine Ra Aq ?_;rw[La Ob _];show wpAny _ A.in1 (seqItems? (.ref S) >>= _) _ _ s
  refine XT (KU hS rfl ?_);show wpAny _ A.in1 (tryCatch (pyNext (.ref I)) _ >>= _) _ _ s
  refine XT (Gy (W.done s _ _ (ej ▸ st) λh' tk TF=>?_));have Tn:=TF S _ yK hS
  show wpAny _ A.in1 (updateSeq S (λ_=>#[]) >>= _) _ _ _;refine XT (Ap Tn rfl (XT (HQ (Ym ?_))));exact hR vb _ tk (by rwa[<- ej]) λb o b1 b2 e=>(QP _ _ (XG b1)).trans (TF b o b2 e)
 | succ k ih =>
  intro j s vb c hk hj st pb ta hS hR;have Xe:j+1<n:=by omega
  refine Ra Aq ?_;rw[La Ob _];show wpAny _ A.in1 (seqItems? (.ref S) >>= _) _ _ s
  refine XT (KU hS rfl ?_);show wpAny _ A.in1 (tryCatch (pyNext (.ref I)) _ >>= _) _ _ s
  refine XT (Gy (W.item (j+1) s _ _ Xe st λv h' tk pv UE TF=>?_));have Tn:=TF S _ yK hS
  have pw:=ck _ h' ta λb o _ b2 e=>TF b o b2 e;show wpAny _ A.in1 (tryCatch (holding [v,v] (richCompare .Lt (v) (vb) >>= _)) _ >>= _) _ _ _
  refine XT (Gy (Td (XT (show wpAny _ _ (compareOp .Lt (v) (vb)) _ _ _ from cc { s with heap:=h',toks:=tk } (j+1) _ v vb _ _ pw (RY (Nat.lt_succ_of_le (My.Sq _ _))) pv pb ?_))));refine XT (Td (QF ?_));refine XT (HQ (Ym ?_));cases hb:lt (j+1) (argBest lt j) with
  | true =>
   simp only [OO];refine XT (Ap Tn rfl (XT (HQ ?_)));rw[nm];have up:∀ b o,b≠S->h'.get? b=some o->(h'.update S (Obj.mapSeq λ_=>#[v,v])).get? b=some o:=λb o b1 e=>(QP _ _ (XG b1)).trans e
   refine Ym ⟨Oa Ob _,ih (j+1) _ (v) _ (by omega) Xe (W.frame _ h' _ UE λb LC o e=>up b o (λh=>SN (h ▸ LC)) e) ?_ (ck _ _ pw λb o b1 _ e=>up b o b1 e) (Vp _ Tn rfl) λv' CU Pl CT CS=>?_⟩
   .unfold argBest;rw[if_pos hb];exact pv
   .exact hR v' CU Pl CT λb o b1 b2 e=>CS b o b1 b2 (up b o b1 (TF b o b2 e))
  | false =>
   simp only [GJ,KJ];refine XT (HQ ?_);rw[nm];refine Ym ⟨Oa Ob _,ih (j+1) _ (vb) c (by omega) Xe UE ?_ pw Tn λv' CU Pl CT CS=>?_⟩
   .unfold argBest;rwa[if_neg (by rw[hb];decide)]
   .exact hR v' CU Pl CT λb o b1 b2 e=>CS b o b1 b2 (TF b o b2 e)
theorem ZQ6 (W:Walks prog w A.in1 I fp wr n P St) (lt:Nat->Nat->Bool) (C:Heap->Prop) (ck:∀ h h',C h->(∀ b o,b≠S->b∉wr->h.get? b=some o->h'.get? b=some o)->C h') (cc:∀(s:Shared) (i j:Nat) (v u:Value) (E:Ae) (Q:Ae),C s.heap->i≠j->P i v->P j u->Q (.bool (lt i j)) s->wpAny (model prog w) A.in1 (compareOp .Lt v u) Q E s) (SN:S∉fp) (hn:0<n) {c:Nat} (st:St 0 s.heap) (ta:C s.heap) (hS:s.heap.get? S=some { cls:=.type "list",dict:=none,data:=.seq #[] c,slots:=#[] })
  (hR:∀ v h' tk,P (argBest lt (n - 1)) v->(∀ b o,b≠S->b∉wr->s.heap.get? b=some o->h'.get? b=some o)->R (.ok (.ret v)) { s with heap:=h',toks:=tk }) :
  codeAny (model prog w) A (.builtin "min.loop" ⟨[.ref I,.none,.ref S],Rw⟩) R s:=by
 have yK:S∉wr:=λh=>SN (W.sub _ h);have nm:(toString "min"++toString ".loop":String)="min.loop":=by decide
 refine Ra Aq ?_;rw[La Ob _];show wpAny _ A.in1 (seqItems? (.ref S) >>= _) _ _ s
 refine XT (KU hS rfl ?_);show wpAny _ A.in1 (tryCatch (pyNext (.ref I)) _ >>= _) _ _ s
 refine XT (Gy (W.item 0 s _ _ hn st λv h' tk pv UE TF=>?_));have Tn:=TF S _ yK hS
 show wpAny _ A.in1 (updateSeq S (λ_=>#[v,v]) >>= _) _ _ _;refine XT (Ap Tn rfl ?_);rw[nm];have up:∀ b o,b≠S->h'.get? b=some o->(h'.update S (Obj.mapSeq λ_=>#[v,v])).get? b=some o:=λb o b1 e=>(QP _ _ (XG b1)).trans e
 refine Ym ⟨Oa Ob _,Zh8 W lt C ck cc SN _ 0 _ v _ rfl hn (W.frame _ h' _ UE λb LC o e=>up b o (λh=>SN (h ▸ LC)) e) pv (ck _ _ ta λb o b1 b2 e=>up b o b1 (TF b o b2 e)) (Vp _ Tn rfl) λv' CU Pl CT CS=>?_⟩;exact hR v' CU Pl CT λb o b1 b2 e=>CS b o b1 b2 (up b o b1 (TF b o b2 e))
theorem Zg8 (W:Walks prog w A.in1 I fp wr n P St) (hn:n=0) (SN:S∉fp) {c:Nat} (st:St 0 s.heap) (hS:s.heap.get? S=some { cls:=.type "list",dict:=none,data:=.seq #[] c,slots:=#[] })
  (hR:∀ h' tk,(∀ b o,b≠S->b∉wr->s.heap.get? b=some o->h'.get? b=some o)->R (.ok (.ret .none)) { s with heap:=h',toks:=tk }) :
  codeAny (model prog w) A (.builtin "min.loop" ⟨[.ref I,.none,.ref S],Rw⟩) R s:=by
 subst hn;refine Ra Aq ?_;rw[La Ob _];show wpAny _ A.in1 (seqItems? (.ref S) >>= _) _ _ s
 refine XT (KU hS rfl ?_);show wpAny _ A.in1 (tryCatch (pyNext (.ref I)) _ >>= _) _ _ s
 refine XT (Gy (W.done s _ _ st λh' tk TF=>?_));refine XT (Gs (Ym ?_));exact hR h' tk λb o _ b2 e=>TF b o b2 e
theorem Zy4{E:Ae}{s:Shared}{id:String}{b:Builtin}{args:Ag}{kw:List (Str × Value)}{Q:Ae}(hk:builtinKind id=none)(hp:plainId id=true)(hb:entryFor table id=some b)(ha:argsOk id ⟨args,kw⟩)
  (hc:wpAny (model prog w) A.in1 (b ⟨args,kw⟩) (λfin s'=>match fin with
   | .done f=>(match (Except.ok f:Result) with | .ok (.ret v)=>Q v s' | .ok _=>False | .error e=>E e s')
   | .again c'=>c'.quiet=true/\codeAny (model prog w) A c' (λr s'=>match r with | .ok (.ret v)=>Q v s' | .ok _=>False | .error e=>E e s') s') E s):wpAny (model prog w) A (call (.builtin id) args kw) Q E s:=by
 refine Gr (codeAny_call_builtin hp hb ?_);simp only [checkBuiltinCall,hk];cases pq:Manifest.signature? id with
 | none=>exact Ym hc
 | some sig =>
  have zy:Bind.checkArgs id sig ⟨args,kw⟩=pure ():=by simpa only [argsOk,pq] using ha
  simp only [zy];exact Ym hc
theorem pj (a:Value):argsOk "min" ⟨[a],Rw⟩:=by unfold argsOk;kernel_rfl
theorem ph{E:Ae}{s:Shared}{Q:Ae}(hh:A.handled=none)(hl:s.heap.IsList l (intItems xs))
  (h0:xs.size=0->∀ h' tk,(∀ b o,s.heap.get? b=some o->h'.get? b=some o)->Q .none { s with heap:=h',toks:=tk })
  (h:0<xs.size->∀ v h' tk,(intItems xs)[argBest (λi j=>decide (numAt xs i<numAt xs j)) (xs.size - 1)]?=some v->(∀ b o,s.heap.get? b=some o->h'.get? b=some o)->Q v { s with heap:=h',toks:=tk }) :
  wpAny (model prog w) A (call (.builtin "min") [.ref l] Rw) Q E s:=by
 have nm:(toString "min"++toString ".loop":String)="min.loop":=by decide
 refine Zy4 F.kind_min F.plain_min F.entry_min (pj _) ?_;show wpAny _ A.in1 (Builtin.Builtins.bindParams "min" ["key","default"] 0 ⟨[],Rw⟩ >>= _) _ _ s
 refine XT (NW (a:=[none,some .none]) rfl ?_);refine XT (Ym ?_);refine XT (iter_intList hl λs₂ e st yX hlI=>?_);subst e;refine XT (Mr ?_);rw[nm];have W:=Walks.list (prog:=prog) (w:=w) (A:=A.in1) hh s.heap.objs.size l hlI (intItems xs)
 obtain⟨G,hG⟩:∃ G,G=s.heap.push { cls:=.type "list_iterator",data:=.fields #[.ref l,.int 0 0] }:=⟨_,rfl⟩;have hold:∀ b o,s.heap.get? b=some o->b≠G.objs.size/\b∉[s.heap.objs.size]/\(G.push { cls:=.type "list",data:=.seq #[] 0 }).get? b=some o:=λb o e=>by
  have Xe:=Yq e;have pf:b<G.objs.size:=by rw[hG];exact Yw Xe (by rw[UH];exact Uq _)
  refine⟨Yz pf,λhm=>by rw[XC.mp hm]at Xe;exact RZ _ Xe,WZ _ (by rw[hG];exact WZ _ e)⟩
 rw[<- hG]at st yX ⊢;have SN:G.objs.size∉[s.heap.objs.size,l]:=λhm=>RZ _ (yX _ hm)
 have NI:=W.frame 0 G (G.push { cls:=.type "list",data:=.seq #[] 0 }) st λb _ o e=>WZ _ e;have pe:(intItems xs).size=xs.size:=by simp[intItems]
 rcases Nat.eq_zero_or_pos xs.size with hz | hz
 .refine Ym ⟨Oa Ob _,Zg8 W (pe.trans hz) SN NI (Yl _ rfl) λh' tk hk=>?_⟩;exact h0 hz h' tk λb o e=>let ⟨a1,a2,a3⟩:=hold b o e;hk b o a1 a2 a3
 .refine Ym ⟨Oa Ob _,ZQ6 W (λi j=>decide (numAt xs i<numAt xs j)) (λ_=>True) (λ_ _ _ _=>trivial) (λs i j v u E Q _ _ pv pu q=>?_) SN (by rwa[pe]) NI trivial (Yl _ rfl) λv h' tk pv hk=>?_⟩
  .obtain⟨t1,rfl⟩:=intItems_at pv;obtain⟨t2,rfl⟩:=intItems_at pu;exact lt_int q
  .rw[pe]at pv;exact h hz v h' tk pv λb o e=>let ⟨a1,a2,a3⟩:=hold b o e;hk b o a1 a2 a3
end
def pd(K:Ad)(te:TE):TE:=λσ H Q=>te σ H λy H1=>∃(p:Addr) (ns:Ac),y=.ref p/\SqL K H1 p (ns.map V.int)/\(ns=[]->Q .non H1)/\∀ m:Int,m∈ns->(∀ a∈ns,m<=a)->Q (.int m) H1
theorem CQ {p kp pos cp:Pos} {j:Nat} (hc:X.calm=true) (hg:Gl X (Str.ofString "min")) (hm:X.mg (Str.ofString "min")=none) (he:PE X e te) (hs:starEach [e] X.env=[(false,eval e X.env)]:=by rfl) :
  PE X (.Call (.Name (Str.ofString "min") p) [e] [⟨some (Str.ofString "default"),.Constant .none j cp,kp⟩] pos) (pd X.K te):=by
 intro pins s σ H Q I h;refine OS (QZ I hg hm Boot.«min» ?_ (by decide) (by decide));have ha:PA X [e] (Kj te Kk):=XY he XX hs
 refine callWith_kw (thn (ha pos pins s σ H (λvs H1=>match vs with
  | [y]=>∃(p:Addr) (ns:Ac),y=.ref p/\SqL X.K H1 p (ns.map V.int)/\(ns=[]->Q .non H1)/\∀ m:Int,m∈ns->(∀ a∈ns,m<=a)->Q (.int m) H1
  | _=>False) I h) λus s1 hh=>?_) (by rw[hs];rfl) (by rw[hs];rfl) rfl rfl
 obtain⟨vs,H1,I1,r,q⟩:=hh
 match vs,r,q with
 | [],_,q=>exact False.elim q
 | _ :: _ :: _,_,q=>exact False.elim q
 | [y],r,q =>
  obtain⟨p2,ns,rfl,hq,q0,q1⟩:=q;obtain⟨u,rfl,ru⟩:=WJ r;obtain rfl:u=Value.ref p2:=ru;refine kws_cons (Constant_none (kws_nil ?_));obtain⟨XW,rv,pl,hz⟩:=I1.list hq;have hi:=ZL rv
  obtain⟨xs,e'⟩:=hi.allInts.items;have Uh:ns=xs.toList.map (·.1):=by rw[<- hi.numsOf,<- nums_intItems,<- e']
  have hl:=pl.isList;rw[e']at hl;refine ph (I1.ok.hd hc) hl (λhsz h' tk hk=>?_) λhsz v h' tk hv hk=>?_
  .refine⟨.non,H1,I1.kept (t':=tk) hk,rfl,q0 ?_⟩;rw[Uh,GL];exact YX.mp (by rwa[YB])
  .obtain⟨t,rfl⟩:=intItems_at hv;obtain⟨h1,h2⟩:=argBest_lt (numAt xs) (xs.size - 1);refine⟨.int _,H1,I1.kept (t':=tk) hk,⟨t,rfl⟩,q1 _ ?_ λa ha=>?_⟩
   .rw[Uh,numAt_eq];exact getD_mem (by rw[Ya,YB];omega)
   .rw[Uh]at ha;obtain⟨j,hj,rfl⟩:=mem_getD ha;rw[Ya,YB]at hj;rw[<- numAt_eq];exact h2 j (by grind)
end L2
namespace My
open PySem L2
def CO (K:Ad) (mg:Af) (x qual:Str) (st:Stmt) (fs:List Str) (Pt:Addr):Prop:=∃(C f:Addr) (fd:FuncData) (c:Addr),mg x=some (.ref C)/\Fun K "__init__" qual st f fd/\Cls K C/\Mk K C f/\(∀ a∈fs,NoAttr K C a)/\fd.code=.ref c/\PySem.W.codeHdIn K c Pt=true
theorem Ji{mg:Af}{oc:Value}{od an:Option Addr}{Um:Array (Option Value)}{kV doc pm ct:Value}(X:K.In h)(G:h.Ns mainGlobals mg)
  (aC:PySem.W.nsIn K mainGlobals x=some (some (.ref C))) (a:PySem.W.findIn K (.ref C) "__init__"=some (some (.ref f))) (i:PySem.W.isFn K (.ref f)=true)
  (l:K.lookup f=some ⟨oc,od,.func (PySem.W.fnOf "__init__" qual (Ka st) (OI st) (XD st) .none kV doc pm an (.ref cA) ct),Um⟩) (c:PySem.W.codeIn K (.ref cA) qual=true) (k:PySem.W.keepIn K (.ref f)=true)
  (pg:PySem.W.plainGet K C Str.empty=true) (hd:PySem.W.hasDictIn K C=true) (po:PySem.W.plainOver K C=true) (sa:PySem.W.findIn K (.ref C) "__setattr__"=some (some (.builtin "object.__setattr__"))) (mk:PySem.W.makesIn K C=true) (kc:PySem.W.keepIn K (.ref C)=true)
  (na:∀ a∈fs,PySem.W.findIn K (.ref C) a=some none) (z:PySem.W.codeHdIn K cA Pt=true):CO K mg x qual st fs Pt :=
 ⟨C,f,_,cA,Qx X G aC,JZ l c k,⟨pg,hd,po,sa⟩,⟨mk,a,i,kc⟩,na,rfl,z⟩
def MV(M:Ac)(ps:Aa)(g:Ac)(i:Nat):Ac:=(VP i).filter λz=>decide (z∉g/\mk M (ps.getD z.toNat (0,0)).1.toNat≠mk M (ps.getD z.toNat (0,0)).2.toNat)
theorem o9(M:Ac)(ps:Aa)(g:Ac)(i:Nat):MV M ps g (i+1)=MV M ps g i++if (i:Int)∉g/\mk M (ps.getD i (0,0)).1.toNat≠mk M (ps.getD i (0,0)).2.toNat then [(i:Int)] else []:=by
 unfold MV;rw[gm,Rf];congr 1;rw[YN,As];show(if decide ((i:Int)∉g/\mk M (ps.getD ((i:Int).toNat) (0,0)).1.toNat≠mk M (ps.getD ((i:Int).toNat) (0,0)).2.toNat)=true then [(i:Int)] else [])=_
 rw[YH];simp only [KZ]
theorem o8(M:Ac)(ps:Aa)(g:Ac)(i:Nat):(MV M ps g i).length<=i:=Yv (YF ..) (by rw[ZR];exact XJ _)
def Xa:Option Int->V
 | none=>.non
 | some z=>.int z
def yJ (w k s ld l i fu:V):List (Str × V):=[("web",w),("kept",k),("shut",s),("lead",ld),("least",l),("incoming",i),("further",fu)]
theorem WG:SameX x H (upd H x o):=λb o' hb e=>by rwa[Za hb]
theorem WebAt.but{C CP w x dx:Addr}(h:WebAt C H w n ps)(hx:H x=some (.ins CP dx []))(s:SameX x H H1):WebAt C H1 w n ps:=by
 obtain⟨d,tl,xs,h1,h2,h3⟩:=h;refine⟨d,tl,xs,s _ _ (λe=>?_) h1,s _ _ (λe=>?_) h2,h3.1,λi p e=>?_⟩
 .rw[e,hx]at h1
  have:=Xx (λo=>match o with | some (HO.ins _ _ fs)=>fs.length | _=>0) h1
  exact absurd this (by show ¬ 0=2;decide)
 .rw[e,hx]at h2;cases h2
 .obtain⟨v,a1,tt,a2,a3⟩:=h3.2 i p e;exact⟨v,a1,tt,a2,s _ _ (λe=>by rw[e,hx]at a3;cases a3) a3⟩
theorem CN{CP a x dx:Addr}(h:SqT K H a xs)(hx:H x=some (.ins CP dx []))(s:SameX x H H1):SqT K H1 a xs:=by
 rcases h with (h | ⟨o,h⟩) | h
 .exact .inl (.inl (s _ _ (λz=>by rw[z,hx]at h;cases h) h))
 .exact .inl (.inr ⟨o,s _ _ (λz=>by rw[z,hx]at h;cases h) h⟩)
 .exact .inr h
theorem o7{CP Pt x dx:Addr}(t:TabH H Pt pos qual)(hx:H x=some (.ins CP dx []))(s:SameX x H H1):TabH H1 Pt pos qual:=by
 obtain⟨ps,h1,h2,h3⟩:=t;refine⟨ps,s _ _ (λe=>by rw[e,hx]at h1;cases h1) h1,h2,?_⟩;rcases h3 with h | ⟨c,h,h'⟩
 .exact .inl h
 .exact .inr ⟨c,h,s _ _ (λe=>by rw[e,hx]at h';cases h') h'⟩
theorem CM(ha:SqT K H a (IL l))(hb:SqT K H b (IL m))(hl:l.length+m.length<=1000)(k:∀(r:Addr) (H':Hp),Same H H'->SqT K H' r (IL (l++m))->Q (.ref r) H'):JJ K (.ref a) (.ref b) H Q:=by
 refine⟨a,b,_,_,rfl,rfl,ha,hb,by rw[XB,XB];exact Yv hl (by decide),λe=>?_,λ_ e=>?_,λ_ _ p hp=>?_⟩
 .have el:l=[]:=GL.mp e;rw[el,Mo]at k;exact k b H (Same.refl _) hb
 .have em:m=[]:=GL.mp e;rw[em,YE]at k;exact k a H (Same.refl _) ha
 .refine k p _ (XZ hp) (SqT.of ?_);rw[XS,zM]
def UK(M:Ac)(ps:Aa)(z:Int):Int × Int:=(min (mk M (ps.getD z.toNat (0,0)).1.toNat) (mk M (ps.getD z.toNat (0,0)).2.toNat),max (mk M (ps.getD z.toNat (0,0)).1.toNat) (mk M (ps.getD z.toNat (0,0)).2.toNat))
theorem dG{l:Ac}(hp:l.Perm [a,b])(hs:l.Pairwise (·<=·)):l=[min a b,max a b]:=by
 by_cases c:a<=b
 .rw[KD c,xq c];exact EB hp hs (by simpa using c)
 .rw[xr (by lia),KC (by omega)];exact EB (hp.trans (List.Perm.swap b a [])) hs (by simp;omega)
theorem CL{z:Int}(h:z∈MV M ps g i):0<=z/\z<(i:Int):=Xk.mp (Yd.mp h).1
def WU(n:Int)(ps:Aa)(I O F:Ac):Ac:=MV (Xs n.toNat (XQ ps I)) ps (I++O++F) ps.length
def TB(n:Int)(ps:Aa)(I O F:Ac)(ld:Option Int):Ac:=(WU n ps I O F).filter λz=>decide (∃ y,ld=some y/\UK (Xs n.toNat (XQ ps I)) ps z=UK (Xs n.toNat (XQ ps I)) ps y)
def VX(n:Int)(ps:Aa)(I O F:Ac)(ld:Option Int):Ac:=(WU n ps I O F).filter λz=>decide (z∉TB n ps I O F ld)
def PartAt(K:Ad)(CP C:Addr)(H:Hp)(x:Addr)(n:Int)(ps:Aa)(I O F inc:Ac)(ld fu:Option Int):Prop:=∃ dx w a b l i,H x=some (.ins CP dx (yJ (.ref w) (.ref a) (.ref b) (Xa ld) (.ref l) (.ref i) (Xa fu)))/\WebAt C H w n ps/\SqT K H a (IL I)/\SqT K H b (IL O)/\H l=some (.tup (IL F))/\H i=some (.lst (IL inc))
theorem PartAt.samex(h:PartAt K CP C H x n ps I O F inc ld fu)(t:TabH H Pt pos qual)(sx:SameX Pt H H2):PartAt K CP C H2 x n ps I O F inc ld fu:=by obtain⟨dx,w,a,b,l,i,h1,h2,h3,h4,h5,h6⟩:=h;exact⟨dx,w,a,b,l,i,sx _ _ (t.ne h1 (by simp)) h1,h2.samex t sx,SqK.samex (kd:=true) h3 t sx,SqK.samex (kd:=true) h4 t sx,sx _ _ (t.ne h5 (by simp)) h5,sx _ _ (t.ne h6 (by simp)) h6⟩
structure PartOk (n:Int) (ps:Aa) (I O:Ac) (ld:Option Int) (F inc:Ac) (fu:Option Int):Prop where
 tr:With n ps I O F
 least:∀ U,With n ps I O U->HT.lexLt U F=false
 inc:Sj (λz=>PyProof.Rows.b2i (decide (ld=some z))) (TB n ps I O F ld) inc
 none:fu=none↔VX n ps I O F ld=[]
 some:∀ y,fu=some y->y∈VX n ps I O F ld/\∀ z∈VX n ps I O F ld,y<=z
def xchT(F:Ac)(o z:Int):Ac:=(wo F o++[z]).mergeSort λa b=>decide (a<=b)
theorem Lv(F:Ac)(o z:Int):(xchT F o z).Perm (wo F o++[z]):=List.mergeSort_perm _ _
theorem Rv(F:Ac)(o z:Int):(xchT F o z).Pairwise (·<=·):=by
 refine(i8 (le:=λa b:Int=>decide (a<=b)) (λa b c h1 h2=>?_) (λa b=>?_) _).imp λh=>Yo h
 .simp only [KZ]at *;lia
 .simp only [Ky,KZ];lia
def WM(n:Int)(ps:Aa)(I F:Ac)(z:Int):Ac:=(UW n ps F z F).filter λt=>decide (t∉I)
section
variable{n:Int}{ps:Aa}{I O F T M:Ac}{x y z:Int}(g:Zz n ps)
include g
theorem CK(hF:With n ps I O F)(he:exg n ps F x y)(hx:x∉I)(hy:y∉O)(hp:M.Perm (wo F x++[y]))(hs:M.Pairwise (·<=·)):With n ps I O M:=by
 refine⟨LO g hF.1 he hp hs,λv hv=>(zr g hF.1 he hp hs).mpr (.inl ⟨hF.2.1 v hv,λe=>hx (e ▸ hv)⟩),λv hv h=>?_⟩;rcases(zr g hF.1 he hp hs).mp h with h | h
 .exact hF.2.2 v hv h.1
 .exact hy (h ▸ hv)
theorem CJ(hF:Ze n ps F)(he:exg n ps F x y)(h:y<x)(hp:M.Perm (wo F x++[y]))(hs:M.Pairwise (·<=·)):HT.lexLt M F=true:=by
 have tM:=LO g hF he hp hs;have yF:y∉F:=((LP g hF).mp he).2.1
 refine(ql (XU.mp tM.1).2 (XU.mp hF.1).2 (by have:=tM.2.1;have:=hF.2.1;lia)).mpr ⟨y,(zr g hF he hp hs).mpr (.inr rfl),yF,λs LX=>?_⟩;rw[zr g hF he hp hs];constructor
 .rintro(q | q)
  .exact q.1
  .lia
 .exact λq=>.inl ⟨q,by lia⟩
theorem SI(hF:With n ps I O F)(Vw:∀ U,With n ps I O U->HT.lexLt U F=false)(hT:With n ps (I++[z]) O T)(Lu:∀ U,With n ps (I++[z]) O U->HT.lexLt U T=false):∀ v∈T,v∈F\/v=z:=λv hv=>Yx λno=>by
 have vF:v∉F:=λh=>no (.inl h);have vz:v≠z:=λh=>no (.inr h)
 obtain⟨u,e1,e2⟩:=Nj g hT.1 hF.1 hv vF;have uF:u∈F:=e2.1
 have uT:u∉T:=((LP g hT.1).mp e1).2.1;have uI:u∉I:=λh=>uT (hT.2.1 u (Ye _ h))
 have vO:v∉O:=λh=>hT.2.2 v h hv;have uO:u∉O:=λh=>hF.2.2 u h uF
 have vI:v∉I++[z]:=λh=>by
  rcases Xr.mp h with h | h
  .exact vF (hF.2.1 v h)
  .exact vz (XC.mp h)
 have uv:u≠v:=λe=>uT (e ▸ hv);obtain⟨M1,p1,q1⟩:=sM (wo F u++[v]);have w1:=CK g hF e2 uI vO p1 q1
 obtain⟨M2,p2,q2⟩:=sM (wo T v++[u]);have w2:=CK g hT e1 vI uO p2 q2
 rcases Int.lt_or_lt_of_ne uv with h | h
 .have:=CJ g hT.1 e1 h p2 q2
  rw[Lu M2 w2]at this;cases this
 .have:=CJ g hF.1 e2 h p1 q1
  rw[Vw M1 w1]at this;cases this
theorem MU(hF:With n ps I O F)(Vw:∀ U,With n ps I O U->HT.lexLt U F=false)(hz:z∉F):With n ps I (O++[z]) F/\∀ U,With n ps I (O++[z]) U->HT.lexLt U F=false :=
 ⟨⟨hF.1,hF.2.1,λv hv=>(Xr.mp hv).elim (hF.2.2 v) λh=>by rwa[XC.mp h]⟩,λU hU=>Vw U ⟨hU.1,hU.2.1,λv hv=>hU.2.2 v (Ye _ hv)⟩⟩
end
theorem WE{z:Int}:With n ps I O T↔With n ps I (O++[z]) T\/With n ps (I++[z]) O T:=by
 constructor
 .intro h;by_cases c:z∈T
  .exact .inr ⟨h.1,λv hv=>(Xr.mp hv).elim (h.2.1 v) λe=>by rw[XC.mp e];exact c,h.2.2⟩
  .exact .inl ⟨h.1,h.2.1,λv hv=>(Xr.mp hv).elim (h.2.2 v) λe=>by rwa[XC.mp e]⟩
 .rintro(h | h)
  .exact⟨h.1,h.2.1,λv hv=>h.2.2 v (Ye _ hv)⟩
  .exact⟨h.1,λv hv=>h.2.1 v (Ye _ hv),h.2.2⟩
def RowAll(n:Int)(ps:Aa)(I O:Ac)(R:Ab):Prop:=R.Nodup/\∀ T,T∈R↔With n ps I O T
theorem RowAll.pc(h:RowAll n ps I O R):PC n ps I O R.length:=⟨R,h.1,λl=>h.2 l,rfl⟩
theorem Zx6{z:Int}(hA:RowAll n ps I (O++[z]) A)(hB:RowAll n ps (I++[z]) O B):RowAll n ps I O (A++B.reverse):=by
 refine⟨Wr.mpr ⟨hA.1,(List.reverse_perm B).nodup_iff.mpr hB.1,λa ha b hb e=>?_⟩,λT=>?_⟩
 .subst e;exact((hA.2 a).mp ha).2.2 z (by simp) (((hB.2 a).mp (Ay.mp hb)).2.1 z (by simp))
 .rw[Xr,Ay,hA.2,hB.2];exact WE.symm
theorem o6{a b c d:Int}(h1:min a b=min c d)(h2:max a b=max c d):(a=c/\b=d)\/(a=d/\b=c):=by
 rcases Int.le_total a b with p | p <;> rcases Int.le_total c d with q | q <;> simp only [KD,xr,KC,xq,p,q]at h1 h2
 .exact .inl ⟨h1,h2⟩
 .exact .inr ⟨h1,h2⟩
 .exact .inr ⟨h2,h1⟩
 .exact .inl ⟨h2,h1⟩
section
variable{n:Int}{ps:Aa}{I O F T:Ac}{o t t':Int}(g:Zz n ps)
include g
theorem dF(hT:Ze n ps T)(ho:o∈T):¬ Conn (XQ ps (wo T o)) (Zx ps o).1 (Zx ps o).2:=by obtain⟨o0,o1⟩:=hT.1.all o ho;exact(ZX g hT o0 o1).mp ((Hs g hT ho ho).mpr rfl)
theorem ZS7(hT:Ze n ps T)(hI:∀ v∈I,v∈T)(ht:t∈T)(hn:t∉I):¬ Conn (XQ ps I) (Zx ps t).1 (Zx ps t).2:=λc =>
 dF g hT ht (c.mono (ZQ λv hv=>Xo.mpr ⟨hI v hv,λe=>hn (by rwa[<- e])⟩))
theorem dE(Xn:∀ z∈I,0<=z/\z<(ps.length:Int))(t0:0<=t)(t1:t<(ps.length:Int))(s0:0<=t')(s1:t'<(ps.length:Int))(h:UK (Xs n.toNat (XQ ps I)) ps t=UK (Xs n.toNat (XQ ps I)) ps t') :
  (Conn (XQ ps I) (Zx ps t).1 (Zx ps t').1/\Conn (XQ ps I) (Zx ps t).2 (Zx ps t').2)\/(Conn (XQ ps I) (Zx ps t).1 (Zx ps t').2/\Conn (XQ ps I) (Zx ps t).2 (Zx ps t').1):=by
 have WC:=ZT g Xn;have a:=TR (z:=t) g t0 t1
 have b:=TR (z:=t') g s0 s1;have h:(min (mk (Xs n.toNat (XQ ps I)) (Zx ps t).1) (mk (Xs n.toNat (XQ ps I)) (Zx ps t).2),max (mk (Xs n.toNat (XQ ps I)) (Zx ps t).1) (mk (Xs n.toNat (XQ ps I)) (Zx ps t).2))=(min (mk (Xs n.toNat (XQ ps I)) (Zx ps t').1) (mk (Xs n.toNat (XQ ps I)) (Zx ps t').2),max (mk (Xs n.toNat (XQ ps I)) (Zx ps t').1) (mk (Xs n.toNat (XQ ps I)) (Zx ps t').2)):=h
 obtain⟨h1,h2⟩:=Prod.mk.inj h;rw[<- RL WC a.1 b.1,<- RL WC a.2 b.2,<- RL WC a.1 b.2,<- RL WC a.2 b.1];exact o6 h1 h2
theorem ZP8(Xn:∀ z∈I,0<=z/\z<(ps.length:Int))(hT:Ze n ps T)(hI:∀ v∈I,v∈T)(ht:t∈T)(hs:t'∈T)(hn:t∉I)(Qt:t'∉I)(h:UK (Xs n.toNat (XQ ps I)) ps t=UK (Xs n.toNat (XQ ps I)) ps t'):t=t':=Yx λne=>by
 obtain⟨t0,t1⟩:=hT.1.all t ht;obtain⟨s0,s1⟩:=hT.1.all t' hs;have sub:∀ v∈I++[t],v∈wo T t':=λv hv=>by
  rcases Xr.mp hv with hv | hv
  .exact Xo.mpr ⟨hI v hv,λe=>Qt (by rwa[<- e])⟩
  .rw[XC.mp hv];exact Xo.mpr ⟨ht,ne⟩
 have up:∀ {i j},Conn (XQ ps I) i j->Conn (XQ ps (I++[t])) i j:=λc=>c.mono (ZQ λv hv=>Ye _ hv);have ed:Conn (XQ ps (I++[t])) (Zx ps t).1 (Zx ps t).2:=.edge (YD.mpr ⟨t,by simp,rfl⟩)
 have c:Conn (XQ ps (I++[t])) (Zx ps t').1 (Zx ps t').2:=by
  rcases dE g Xn t0 t1 s0 s1 h with ⟨a,b⟩ | ⟨a,b⟩
  .exact((up a).symm.trans ed).trans (up b)
  .exact((up b).symm.trans ed.symm).trans (up a)
 exact dF g hT hs (c.mono (ZQ sub))
theorem o5(Xn:∀ z∈I,0<=z/\z<(ps.length:Int))(hT:With n ps I O T)(hF:∀ v∈I,v∈F)(ht:t∈T)(hn:t∉F):t∈WU n ps I O F:=by
 obtain⟨t0,t1⟩:=hT.1.1.all t ht;have a:=TR (z:=t) g t0 t1
 have hI:t∉I:=λh=>hn (hF t h);refine Yd.mpr ⟨Xk.mpr ⟨t0,t1⟩,Yr ⟨λh=>?_,λe=>?_⟩⟩
 .rcases Xr.mp h with h | h
  .rcases Xr.mp h with h | h
   .exact hI h
   .exact hT.2.2 t h ht
  .exact hn h
 .exact ZS7 g hT.1 hT.2.1 ht hI ((RL (ZT g Xn) a.1 a.2).mp e)
end
def VV(n:Int)(ps:Aa)(I F:Ac)(asc:Bool)(z:Int):Ab:=if asc then (WM n ps I F z).map λo=>xchT F o z else ((WM n ps I F z).map λo=>xchT F o z).reverse
def Vv(n:Int)(ps:Aa)(I F:Ac):Ac->Bool->Ab
 | [],_=>[]
 | z :: r,asc=>VV n ps I F asc z++Vv n ps I F r (!asc)
theorem Jh(n:Int)(ps:Aa)(I F:Ac)(z:Int):∀(l:Ac) (asc:Bool),Vv n ps I F (l++[z]) asc=Vv n ps I F l asc++VV n ps I F (asc != (l.length % 2 == 1)) z
 | [],asc=>by show VV n ps I F asc z++[]=[]++VV n ps I F (asc != false) z;rw[YE,Mo,Bool.bne_false]
 | y :: l,asc=>by show VV n ps I F asc y++Vv n ps I F (l++[z]) (!asc)=VV n ps I F asc y++Vv n ps I F l (!asc)++_;rw[Jh n ps I F z l,Rc,Yt];congr 3;rcases(by lia:l.length % 2=0/\(l.length+1) % 2=1\/l.length % 2=1/\(l.length+1) % 2=0) with ⟨a,b⟩ | ⟨a,b⟩ <;> rw[a,b] <;> cases asc <;> rfl
theorem o4(n:Int)(ps:Aa)(I F:Ac)(asc:Bool)(z:Int):(VV n ps I F asc z).length<=F.length:=by
 unfold VV;have h:(WM n ps I F z).length<=F.length:=Yv (YF ..) (TU n ps F z F)
 split
 .rw[Ya];exact h
 .rw[YR,Ya];exact h
theorem dD(n:Int)(ps:Aa)(I F:Ac):∀(l:Ac) (asc:Bool),(Vv n ps I F l asc).length<=l.length * F.length
 | [],_=>Yk _
 | z :: l,asc=>by
  show(VV n ps I F asc z++Vv n ps I F l (!asc)).length<=_;rw[Xv,Yt,Nat.succ_mul]
  have:=o4 n ps I F asc z
  have:=dD n ps I F l (!asc)
  lia
def CI(n:Int)(ps:Aa)(I F inc:Ac):Ab:=F :: Vv n ps I F inc (inc.length % 2 == 1)
theorem Xd:o∈UW n ps F t F↔o∈F/\t∈VQ n ps F o:=by unfold UW;rw[Yd,YM];exact Iff.rfl
theorem XE{o t v:Int}:v∈xchT F o t↔(v∈F/\v≠o)\/v=t:=by rw[(Lv F o t).mem_iff,Xr,Xo,XC]
section
variable{n:Int}{ps:Aa}{I O F T:Ac}{ld:Option Int}{o t:Int}(g:Zz n ps)
include g
theorem o3(Xn:∀ z∈I,0<=z/\z<(ps.length:Int))(hF:With n ps I O F)(hu:VX n ps I O F ld=[])(hT:With n ps I O T):T=F\/∃ t∈WU n ps I O F,∃ o∈WM n ps I F t,T=xchT F o t:=by
 by_cases c:∀ v∈T,v∈F
 .exact .inl (Jj g hT.1 hF.1 c)
 .obtain⟨t,ht,hn⟩:∃ t,t∈T/\t∉F:=Yx λno=>c λv hv=>Yx λhn=>no ⟨v,hv,hn⟩;have dC:=o5 g Xn hT hF.2.1 ht hn
  have alike:∀ v∈WU n ps I O F,∃ y,ld=some y/\UK (Xs n.toNat (XQ ps I)) ps v=UK (Xs n.toNat (XQ ps I)) ps y:=λv hv=>by
   have hm:v∈TB n ps I O F ld:=Yx λno=>by
    have:v∈VX n ps I O F ld:=Yd.mpr ⟨hv,Yr no⟩
    rw[hu]at this;cases this
   exact Yo (Yd.mp hm).2
  have only:∀ v∈T,v∉F->v=t:=λv hv dB=>by obtain⟨y,e1,e2⟩:=alike v (o5 g Xn hT hF.2.1 hv dB);obtain⟨y',e3,e4⟩:=alike t dC;rw[e1]at e3;cases e3;exact ZP8 g Xn hT.1 hT.2.1 hv ht (λh=>dB (hF.2.1 v h)) (λh=>hn (hF.2.1 t h)) (e2.trans e4.symm)
  obtain⟨o,e1,e2⟩:=Nj g hT.1 hF.1 ht hn;have oT:o∉T:=((LP g hT.1).mp e1).2.1
  have hM:=LO g hF.1 e2 (Lv F o t) (Rv F o t);refine .inr ⟨t,dC,o,Yd.mpr ⟨Xd.mpr ⟨e2.1,e2.2.2⟩,Yr λh=>oT (hT.2.1 o h)⟩,Jj g hT.1 hM λv hv=>XE.mpr ?_⟩;by_cases cv:v∈F
  .exact .inl ⟨cv,λe=>oT (by rwa[<- e])⟩
  .exact .inr (only v hv cv)
theorem dz(hF:With n ps I O F)(ht:t∈WU n ps I O F)(ho:o∈WM n ps I F t):With n ps I O (xchT F o t):=by
 obtain⟨h1,h2⟩:=Yd.mp ht;obtain⟨hg,_⟩:=Yo h2;obtain⟨h3,h4⟩:=Yd.mp ho;obtain⟨h5,h6⟩:=Xd.mp h3;have tF:t∉F:=λh=>hg (Yg _ h)
 exact CK g hF ⟨h5,λe=>tF (by rwa[e]),h6⟩ (Yo h4) (λh=>hg (Ye _ (Yg _ h))) (Lv F o t) (Rv F o t)
end
theorem Sh{I F T:Ac}:T∈VV n ps I F asc z↔∃ o∈WM n ps I F z,T=xchT F o z:=by
 have h:T∈((WM n ps I F z).map λo=>xchT F o z)↔∃ o∈WM n ps I F z,T=xchT F o z:=by rw[YD];exact⟨λ⟨o,h1,h2⟩=>⟨o,h1,h2.symm⟩,λ⟨o,h1,h2⟩=>⟨o,h1,h2.symm⟩⟩
 unfold VV;split
 .exact h
 .rw[Ay];exact h
theorem VW{I F T:Ac}:∀ {l:Ac} {asc:Bool},T∈Vv n ps I F l asc↔∃ z∈l,∃ o∈WM n ps I F z,T=xchT F o z
 | [],_=>⟨λh=>(by cases h),λ⟨_,h,_⟩=>(by cases h)⟩
 | z :: l,asc=>by
  show T∈VV n ps I F asc z++Vv n ps I F l (!asc)↔_;rw[Xr,Sh,VW];constructor
  .rintro(h | ⟨z',h1,h2⟩)
   .exact⟨z,Yc,h⟩
   .exact⟨z',Yf _ h1,h2⟩
  .rintro⟨z',h1,h2⟩;rcases Yh.mp h1 with e | e
   .exact .inl (e ▸ h2)
   .exact .inr ⟨z',e,h2⟩
theorem ZD9(ht:t∉F)(e:xchT F o t=xchT F o' t'):t=t':=by
 have:t∈xchT F o' t':=e ▸ XE.mpr (.inr rfl)
 rcases XE.mp this with h | h
 .exact absurd h.1 ht
 .exact h
theorem oZ(ho:o∈F)(ht:t∉F)(e:xchT F o t=xchT F o' t):o=o':=Yx λne=>by
 have h1:o∈xchT F o' t:=XE.mpr (.inl ⟨ho,ne⟩);rw[<- e]at h1;rcases XE.mp h1 with h | h
 .exact h.2 rfl
 .exact ht (h ▸ ho)
theorem Zi8(hF:F.Nodup)(hz:z∉F):(VV n ps I F asc z).Nodup:=by
 have hm:∀ v∈WM n ps I F z,v∈F:=λv hv=>(Xd.mp (Yd.mp hv).1).1;have h:((WM n ps I F z).map λo=>xchT F o z).Nodup:=by have hd:(WM n ps I F z).Pairwise (·≠·):=(hF.filter _).filter _;exact Mt.mpr (ja (λ{a b} ha hb VJ e=>VJ (oZ (hm a ha) hz e)) hd)
 unfold VV;split
 .exact h
 .exact(List.reverse_perm _).nodup_iff.mpr h
theorem dy(hF:F.Nodup):∀ {l:Ac} {asc:Bool},l.Nodup->(∀ z∈l,z∉F)->(Vv n ps I F l asc).Nodup
 | [],_,_,_=>.nil
 | z :: l,asc,hn,hl=>by
  obtain⟨n1,n2⟩:=Rb.mp hn;refine Wr.mpr ⟨Zi8 hF (hl z Yc),dy hF n2 λv hv=>hl v (Yf _ hv),λa ha b hb e=>?_⟩;obtain⟨o,_,h1⟩:=Sh.mp ha;obtain⟨z',oY,o',_,h2⟩:=VW.mp hb;rw[h1,h2]at e
  have:=ZD9 (hl z Yc) e
  exact n1 (this ▸ oY)
theorem oX(g:Zz n ps)(Xn:∀ z∈I,0<=z/\z<(ps.length:Int))(hF:With n ps I O F)(hu:VX n ps I O F ld=[])(Tz:∀ z,z∈inc↔z∈WU n ps I O F)(hn:inc.Nodup):RowAll n ps I O (CI n ps I F inc):=by
 have yH:∀ z∈inc,z∉F:=λz hz h=>(Yo (Yd.mp ((Tz z).mp hz)).2).1 (Yg _ h);refine⟨Rb.mpr ⟨λh=>?_,dy hF.1.1.nodup hn yH⟩,λT=>?_⟩
 .obtain⟨z,hz,o,_,e⟩:=VW.mp h;exact yH z hz (by rw[e];exact XE.mpr (.inr rfl))
 .unfold CI;rw[Yh,VW];constructor
  .rintro(h | ⟨z,hz,o,ho,rfl⟩)
   .rw[h];exact hF
   .exact dz g hF ((Tz z).mp hz) ho
  .intro h;rcases o3 g Xn hF hu h with e | ⟨t,ht,o,ho,e⟩
   .exact .inl e
   .exact .inr ⟨t,(Tz t).mpr ht,o,ho,e⟩
theorem dw{u v i j:Nat}(c:Conn (es++[(u,v)]) i j):Conn es i j\/(Conn es i u/\Conn es v j)\/(Conn es i v/\Conn es u j):=by
 induction c with
 | refl i=>exact .inl (.refl i)
 | edge h =>
  rcases Xr.mp h with h | h
  .exact .inl (.edge h)
  .cases XC.mp h;exact .inr (.inl ⟨.refl _,.refl _⟩)
 | symm _ ih =>
  rcases ih with a | ⟨a,b⟩ | ⟨a,b⟩
  .exact .inl a.symm
  .exact .inr (.inr ⟨b.symm,a.symm⟩)
  .exact .inr (.inl ⟨b.symm,a.symm⟩)
 | trans _ _ PK Th =>
  rcases PK with a | ⟨a,b⟩ | ⟨a,b⟩ <;> rcases Th with c | ⟨c,d⟩ | ⟨c,d⟩
  .exact .inl (a.trans c)
  .exact .inr (.inl ⟨a.trans c,d⟩)
  .exact .inr (.inr ⟨a.trans c,d⟩)
  .exact .inr (.inl ⟨a,b.trans c⟩)
  .exact .inr (.inl ⟨a,d⟩)
  .exact .inl (a.trans d)
  .exact .inr (.inr ⟨a,b.trans c⟩)
  .exact .inl (a.trans d)
  .exact .inr (.inr ⟨a,d⟩)
theorem CH{key:Int->Int}(h:Sj key ns ms):ms.Perm ns:=by
 obtain⟨p,h1,_,rfl⟩:=h;have e:(List.range ns.length).map (λi=>ns.getD i 0)=ns:=by
  refine Ib λi=>?_;rw[Yn];by_cases c:i<ns.length
  .rw[xG c,Xu c];show some (ns.getD i 0)=_
   rw[WO,Xu c];rfl
  .rw[Vq (by simpa using c),Vq (by lia)];rfl
 have:=h1.map λi=>ns.getD i 0
 rwa[e]at this
theorem oW(key:Int->Int)(ns:Ac):∃ ms,Sj key ns ms:=by
 have hp:=List.mergeSort_perm (List.range ns.length) λi j=>decide (key (ns.getD i 0)<key (ns.getD j 0)\/(key (ns.getD i 0)=key (ns.getD j 0)/\i<=j));have hs:=i8 (le:=λi j=>decide (key (ns.getD i 0)<key (ns.getD j 0)\/(key (ns.getD i 0)=key (ns.getD j 0)/\i<=j))) (λa b c h1 h2=>by simp only [KZ]at *;grind) (λa b=>by simp only [Ky,KZ];grind) (List.range ns.length)
 refine⟨_,_,hp,?_,rfl⟩;refine(hs.and (hp.nodup_iff.mpr List.nodup_range)).imp λ{a b} h=>?_;have h1:=Yo h.1
 have h2:=h.2;show key (ns.getD a 0)<key (ns.getD b 0)\/(key (ns.getD a 0)=key (ns.getD b 0)/\a<b)
 grind
theorem oV(n:Int)(ps:Aa)(I O F:Ac)(ld:Option Int):(VX n ps I O F ld).Pairwise (· < ·):=((RJ _).filter _).filter _
theorem Ls(g:Zz n ps)(ld:Option Int)(h:∃ U,With n ps I O U):∃ F inc fu,PartOk n ps I O ld F inc fu:=by
 obtain⟨L,l1,l2⟩:=qj g;obtain⟨U,hU⟩:=h;obtain⟨F,hF,hm⟩:∃ F,With n ps I O F/\∀ U,With n ps I O U->HT.lexLt U F=false:=by
  have key:∀ M:Ab,M.Pairwise Nk->(∃ U∈M,With n ps I O U)->∃ F∈M,With n ps I O F/\∀ U∈M,With n ps I O U->HT.lexLt U F=false:=by
   intro M
   induction M with
   | nil=>rintro _ ⟨U,h,_⟩;cases h
   | cons x M ih =>
    intro hp hex;obtain⟨p1,p2⟩:=YV.mp hp;by_cases c:With n ps I O x
    .refine⟨x,Yc,c,λV hV _=>?_⟩;rcases Yh.mp hV with e | e
     .rw[e];exact sX x
     .cases q:HT.lexLt V x with
      | false=>rfl
      | true =>
       have z:=Eu q (p1 V e);rw[sX]at z;cases z
    .obtain⟨V,hV,hw⟩:=hex;obtain⟨F,hF,a,b⟩:=ih p2 ⟨V,(Yh.mp hV).resolve_left λe=>c (e ▸ hw),hw⟩;refine⟨F,Yf _ hF,a,λV hV hw=>?_⟩;rcases Yh.mp hV with e | e
     .exact absurd (e ▸ hw) c
     .exact b V e hw
  obtain⟨F,_,a,b⟩:=key L l2 ⟨U,(l1 U).mpr hU.1,hU⟩;exact⟨F,a,λV hV=>b V ((l1 V).mpr hV.1) hV⟩
 obtain⟨inc,hi⟩:=oW (λz=>PyProof.Rows.b2i (decide (ld=some z))) (TB n ps I O F ld);have SH:=oV n ps I O F ld
 cases hu:VX n ps I O F ld with
 | nil=>exact⟨F,inc,none,hF,hm,hi,⟨λ_=>hu,λ_=>rfl⟩,λy h=>by cases h⟩
 | cons y l =>
  rw[hu]at SH;refine⟨F,inc,some y,hF,hm,hi,⟨λh=>(by cases h),λh=>(by rw[hu]at h;cases h)⟩,λv h=>?_⟩;cases h;rw[hu];refine⟨Yc,λv hv=>?_⟩;rcases Yh.mp hv with e | e
  .rw[e];exact Mi _
  .exact HU ((YV.mp SH).1 v e)
inductive RowR (n:Int) (ps:Aa):Nat->Ac->Ac->Option Int->Ab->Prop
 | und {d:Nat} {I O F inc:Ac} {ld:Option Int}:PartOk n ps I O ld F inc none->inc.length<=30->(∀ z∈inc,z∉F/\0<=z/\z<(ps.length:Int))->RowR n ps d I O ld (CI n ps I F inc)
 | div {d:Nat} {I O F inc:Ac} {z y:Int} {A B:Ab}:PartOk n ps I O (some z) F inc (some y)->(I++[z]).Nodup->(∀ v∈I++[z],0<=v/\v<(ps.length:Int))->(∀ v∈I++[z],v∉O)->(O++[z]).length<=30->(∃ U,With n ps (I++[z]) O U)->(∃ U,With n ps I (O++[z]) U)->0<=y->y<(ps.length:Int)->PC n ps I (O++[z]) A.length->RowR n ps d I (O++[z]) (some y) A->RowR n ps d (I++[z]) O (some y) B->RowR n ps (d+1) I O (some z) (A++B.reverse)
theorem ZW7{key:Int->Int}(h:Sj key ns ms)(h':Sj key ns ms'):ms=ms':=by
 obtain⟨p,h1,h2,rfl⟩:=h;obtain⟨p',Hl,oU,rfl⟩:=h';have e:p=p':=List.Perm.eq_of_pairwise (le:=Ahd λi=>key (ns.getD i 0)) (λa b _ _ x y=>by unfold Ahd at x y;omega) h2 oU (h1.trans Hl.symm)
 rw[e]
theorem PartOk.uniq{n:Int}{ps:Aa}{I O F F' inc Wd:Ac}{ld fu Hg:Option Int}(h1:PartOk n ps I O ld F inc fu)(h2:PartOk n ps I O ld F' Wd Hg):F=F'/\inc=Wd/\fu=Hg:=by
 have eF:F=F':=SM (h2.least F h1.tr) (h1.least F' h2.tr);subst eF;refine⟨rfl,ZW7 h1.inc h2.inc,?_⟩;cases fu with
 | none =>
  cases Hg with
  | none=>rfl
  | some y =>
   have:=(h2.some y rfl).1
   rw[h1.none.mp rfl]at this;cases this
 | some y =>
  cases Hg with
  | none =>
   have:=(h1.some y rfl).1
   rw[h2.none.mp rfl]at this;cases this
  | some y' =>
   obtain⟨a1,a2⟩:=h1.some y rfl;obtain⟨b1,b2⟩:=h2.some y' rfl
   have:=a2 y' b1
   have:=b2 y a1
   rw[show y=y' by omega]
def RowW(n:Int)(ps:Aa)(R:Ab):Prop:=∃(ld:Option Int) (F inc:Ac) (fu:Option Int),PartOk n ps [] [] ld F inc fu/\(ld=none↔WU n ps [] [] F=[])/\(∀ y,ld=some y->y∈WU n ps [] [] F/\∀ z∈WU n ps [] [] F,y<=z)/\RowR n ps 31 [] [] ld R/\TC n ps R.length
section
variable{n:Int}{ps:Aa}{I O F:Ac}{y z:Int}(g:Zz n ps)
include g
theorem ZZ(Xn:∀ v∈I,0<=v/\v<(ps.length:Int)):z∈WU n ps I O F↔(0<=z/\z<(ps.length:Int))/\z∉I/\z∉O/\z∉F/\¬ Conn (XQ ps I) (Zx ps z).1 (Zx ps z).2:=by
 unfold WU MV;rw[Yd,Xk,YM];constructor
 .rintro⟨h,h1,h2⟩;have a:=TR (z:=z) g h.1 h.2
  exact⟨h,λq=>h1 (Ye _ (Ye _ q)),λq=>h1 (Ye _ (Yg _ q)),λq=>h1 (Yg _ q),λc=>h2 ((RL (ZT g Xn) a.1 a.2).mpr c)⟩
 .rintro⟨h,h1,h2,h3,h4⟩;have a:=TR (z:=z) g h.1 h.2
  refine⟨h,λq=>?_,λe=>h4 ((RL (ZT g Xn) a.1 a.2).mp e)⟩;rcases Xr.mp q with q | q
  .rcases Xr.mp q with q | q
   .exact h1 q
   .exact h2 q
  .exact h3 q
theorem yG(Xn:∀ v∈I,0<=v/\v<(ps.length:Int))(hF:With n ps I O F)(hz:z∈WU n ps I O F):∃ U,With n ps (I++[z]) O U:=by
 obtain⟨⟨z0,z1⟩,zI,zO,zF,hc⟩:=(ZZ g Xn).mp hz;obtain⟨o,ho,hoI⟩:∃ o,o∈UW n ps F z F/\o∉I:=Yx λno=>hc ((sR g hF.1 z0 z1).mono (ZQ λv hv=>Yx λh=>no ⟨v,hv,h⟩));obtain⟨h5,h6⟩:=Xd.mp ho;have he:exg n ps F o z:=⟨h5,λe=>zF (by rwa[e]),h6⟩
 have hw:=CK g hF he hoI zO (Lv F o z) (Rv F o z);refine⟨xchT F o z,hw.1,λv hv=>?_,hw.2.2⟩;rcases Xr.mp hv with hv | hv
 .exact hw.2.1 v hv
 .rw[XC.mp hv];exact XE.mpr (.inr rfl)
theorem CG(Xn:∀ v∈I,0<=v/\v<(ps.length:Int))(y0:0<=y/\y<(ps.length:Int))(z0:0<=z/\z<(ps.length:Int))(h:(Conn (XQ ps I) (Zx ps y).1 (Zx ps z).1/\Conn (XQ ps I) (Zx ps z).2 (Zx ps y).2)\/(Conn (XQ ps I) (Zx ps y).1 (Zx ps z).2/\Conn (XQ ps I) (Zx ps z).1 (Zx ps y).2)):UK (Xs n.toNat (XQ ps I)) ps y=UK (Xs n.toNat (XQ ps I)) ps z:=by
 have WC:=ZT g Xn;have a:=TR (z:=y) g y0.1 y0.2
 have b:=TR (z:=z) g z0.1 z0.2;rw[<- RL WC a.1 b.1,<- RL WC b.2 a.2,<- RL WC a.1 b.2,<- RL WC b.1 a.2]at h;show(min (mk (Xs n.toNat (XQ ps I)) (Zx ps y).1) (mk (Xs n.toNat (XQ ps I)) (Zx ps y).2),max (mk (Xs n.toNat (XQ ps I)) (Zx ps y).1) (mk (Xs n.toNat (XQ ps I)) (Zx ps y).2))=(min (mk (Xs n.toNat (XQ ps I)) (Zx ps z).1) (mk (Xs n.toNat (XQ ps I)) (Zx ps z).2),max (mk (Xs n.toNat (XQ ps I)) (Zx ps z).1) (mk (Xs n.toNat (XQ ps I)) (Zx ps z).2))
 rcases h with ⟨e1,e2⟩ | ⟨e1,e2⟩
 .rw[e1,<- e2]
 .rw[e1,<- e2,Int.min_comm,Int.max_comm]
end
section
variable{n:Int}{ps:Aa}(g:Zz n ps)
include g
theorem CF(d:Nat)(hP:PartOk n ps I O ld F inc fu)(Xn:∀ v∈I,0<=v/\v<(ps.length:Int))(hu:VX n ps I O F ld=[]):∃ R,RowR n ps d I O ld R/\RowAll n ps I O R:=by
 obtain rfl:=hP.none.mpr hu;have hp:=CH hP.inc
 have Ti:(TB n ps I O F ld).Nodup:=((((RJ _).imp λh e=>by lia:(VP ps.length).Nodup)).filter _).filter _;have Tz:∀ z,z∈inc↔z∈WU n ps I O F:=λz=>by
  rw[hp.mem_iff];constructor
  .exact λh=>(Yd.mp h).1
  .intro h;refine Yx λno=>?_
   have:z∈VX n ps I O F ld:=Yd.mpr ⟨h,Yr no⟩
   rw[hu]at this;cases this
 have hlen:inc.length<=30:=by rw[hp.length_eq];refine Yv (YF ..) (Yv (o8 _ _ _ _) g.2.2.1)
 exact⟨_,.und hP hlen λz hz=>by obtain⟨h1,_,_,h2,_⟩:=(ZZ g Xn).mp ((Tz z).mp hz);exact⟨h2,h1⟩,oX g Xn hP.tr hu Tz (hp.nodup_iff.mpr Ti)⟩
theorem oS:∀(d:Nat) (I O F inc:Ac) (ld fu:Option Int),PartOk n ps I O ld F inc fu->I.Nodup->(∀ v∈I,0<=v/\v<(ps.length:Int))->(∀ v∈I,v∉O)->O.Nodup->(∀ v∈O,0<=v/\v<(ps.length:Int))->(ld=none->WU n ps I O F=[])->(∀ z,ld=some z->z∈WU n ps I O F)->ps.length<=d+I.length+O.length->∃ R,RowR n ps d I O ld R/\RowAll n ps I O R:=by
 intro d
 induction d with
 | zero =>
  intro I O F inc ld fu hP hIn Xn UN yE yD _ _ hm;refine CF g 0 hP Xn ?_;have yH:WU n ps I O F=[]:=AJ.mpr λz hz=>by
   obtain⟨h1,h2,h3,_⟩:=(ZZ g Xn).mp hz;have nd:(z :: (I++O)).Nodup:=Rb.mpr ⟨λh=>(Xr.mp h).elim h2 h3,Wr.mpr ⟨hIn,yE,λa ha b hb e=>UN a ha (e ▸ hb)⟩⟩
   have:=LM (m:=VP ps.length) nd λv hv=>Xk.mpr (by
    rcases Yh.mp hv with e | e
    .rw[e];exact h1
    .exact(Xr.mp e).elim (Xn v) (yD v))
   rw[ZR,Yt,Xv]at this;lia
  unfold VX;rw[yH];rfl
 | succ d ih =>
  intro I O F inc ld fu hP hIn Xn UN yE yD QS Tx hm;by_cases hu:VX n ps I O F ld=[]
  .exact CF g _ hP Xn hu
  obtain⟨y,rfl⟩:∃ y,fu=some y:=by
   cases fu with
   | none=>exact absurd (hP.none.mp rfl) hu
   | some y=>exact⟨y,rfl⟩
  obtain⟨yu,_⟩:=hP.some y rfl;obtain⟨yo,ya⟩:=Yd.mp yu;have ya:=Yo ya
  obtain⟨z,rfl⟩:∃ z,ld=some z:=by
   cases ld with
   | none=>rw[QS rfl]at yo;cases yo
   | some z=>exact⟨z,rfl⟩
  have zo:=Tx z rfl;obtain⟨MT,yI,yO,yF,yc⟩:=(ZZ g Xn).mp yo;obtain⟨Lr,zI,zO,zF,zc⟩:=(ZZ g Xn).mp zo;have XH:UK (Xs n.toNat (XQ ps I)) ps y≠UK (Xs n.toNat (XQ ps I)) ps z:=λe=>ya (Yd.mpr ⟨yo,Yr ⟨z,rfl,e⟩⟩)
  have yz:y≠z:=λe=>XH (by rw[e]);have dv:(I++[z]).Nodup:=Wr.mpr ⟨hIn,by simp,λa ha b hb e=>zI (by rwa[<- XC.mp hb,<- e])⟩
  have du:(O++[z]).Nodup:=Wr.mpr ⟨yE,by simp,λa ha b hb e=>zO (by rwa[<- XC.mp hb,<- e])⟩;have Uu:∀ v∈I++[z],0<=v/\v<(ps.length:Int):=λv hv=>(Xr.mp hv).elim (Xn v) λh=>by rwa[XC.mp h]
  have CD:∀ v∈O++[z],0<=v/\v<(ps.length:Int):=λv hv=>(Xr.mp hv).elim (yD v) λh=>by rwa[XC.mp h]
  have Pk:(O++[z]).length<=30:=by
   have:=LM (m:=VP ps.length) du λv hv=>Xk.mpr (CD v hv)
   rw[ZR]at this
   have:=g.2.2.1
   lia
  have CC:∀ v∈I++[z],v∉O:=λv hv=>(Xr.mp hv).elim (UN v) λh=>by rwa[XC.mp h]
  have oR:∀ v∈I,v∉O++[z]:=λv hv h=>(Xr.mp h).elim (UN v hv) λh=>zI (by rwa[<- XC.mp h]);obtain⟨s1,s2⟩:=MU g hP.tr hP.least zF;obtain⟨F1,MS,yC,Jw⟩:=Ls g (some y) ⟨F,s1⟩;have e1:F1=F:=SM (s2 F1 Jw.tr) (Jw.least F s1)
  subst e1;have hW:=yG g Xn hP.tr zo
  obtain⟨F2,Jg,oQ,Ru⟩:=Ls g (some y) hW;have yF2:y∉F2:=λh=>(SI g hP.tr hP.least Ru.tr Ru.least y h).elim yF yz
  obtain⟨A,Ou,Tj⟩:=ih I (O++[z]) F1 MS (some y) yC Jw hIn Xn oR du CD (λh=>by cases h) (λv h=>by cases h;exact(ZZ g Xn).mpr ⟨MT,yI,λh=>(Xr.mp h).elim yO λh=>yz (XC.mp h),yF,yc⟩) (by rw[Xv,Yp];lia)
  obtain⟨B,gF,Nq⟩:=ih (I++[z]) O F2 Jg (some y) oQ Ru dv Uu CC yE yD (λh=>by cases h) (λv h=>by
   cases h;refine(ZZ g Uu).mpr ⟨MT,λh=>(Xr.mp h).elim yI λh=>yz (XC.mp h),yO,yF2,λc=>?_⟩;have e:XQ ps (I++[z])=XQ ps I++[((Zx ps z).1,(Zx ps z).2)]:=YJ
   rw[e]at c;rcases dw c with h | h
   .exact yc h
   .exact XH (CG g Xn MT Lr h)) (by rw[Xv,Yp];lia)
  exact⟨_,.div hP dv Uu CC Pk hW ⟨F1,s1⟩ MT.1 MT.2 Tj.pc Ou gF,Zx6 Tj Nq⟩
theorem oP(h:∃ U,Ze n ps U):∃ R,RowW n ps R/\R.Nodup/\∀ T,T∈R↔Ze n ps T:=by
 obtain⟨U,hU⟩:=h;have hw:∀ T,With n ps [] [] T↔Ze n ps T:=λT=>⟨λh=>h.1,λh=>⟨h,λz q=>(by cases q),λz q=>(by cases q)⟩⟩
 obtain⟨F,_,_,dt⟩:=Ls g none ⟨U,(hw U).mpr hU⟩;have SH:(WU n ps [] [] F).Pairwise (· < ·):=(RJ _).filter _
 obtain⟨ld,h1,h2⟩:∃ ld:Option Int,(ld=none↔WU n ps [] [] F=[])/\∀ y,ld=some y->y∈WU n ps [] [] F/\∀ z∈WU n ps [] [] F,y<=z:=by
  cases ho:WU n ps [] [] F with
  | nil=>exact⟨none,⟨λ_=>rfl,λ_=>rfl⟩,λy h=>by cases h⟩
  | cons y l =>
   rw[ho]at SH;refine⟨some y,⟨λh=>(by cases h),λh=>(by cases h)⟩,λv h=>?_⟩;cases h;refine⟨Yc,λv hv=>?_⟩;rcases Yh.mp hv with e | e
   .rw[e];exact Mi _
   .exact HU ((YV.mp SH).1 v e)
 obtain⟨F',inc,fu,hP⟩:=Ls g ld ⟨U,(hw U).mpr hU⟩;have eF:F'=F:=SM (dt.least F' hP.tr) (hP.least F dt.tr)
 subst eF;obtain⟨R,r1,r2⟩:=oS g 31 [] [] F' inc ld fu hP .nil (λv h=>by cases h) (λv h=>by cases h) .nil (λv h=>by cases h) (λe=>h1.mp e) (λz e=>(h2 z e).1) (by have:=g.2.2.1;simp;lia);exact⟨R,⟨ld,F',inc,fu,hP,h1,h2,r1,R,r2.1,λl=>(r2.2 l).trans (hw l),rfl⟩,r2.1,λT=>(r2.2 T).trans (hw T)⟩
end
theorem oO{mg:Af}:FnOk P w K mg base Xg k f fd ps λ_ _ _ _=>False:=⟨λ_ _ _ _ h=>h.elim,λ_ _ _ _ _ _ _ _ _ _ _ _ _ h=>h.elim⟩
end My
namespace L2
open PySem PyProof.Rows
variable{X:Cx}
def CB(K:Ad)(n:Nat)(t:Qp):TG:=λv σ H Q=>∃ a xs,v=.ref a/\SqL K H a xs/\xs.length=n/\t xs σ H Q
theorem oN{k:Nat}{pos:Pos}(hc:X.calm=true)(h:Kv X es t)
  (hn:(assignEach es X.env).length=n:=by rfl) (VE:(assignEach es X.env).findIdx? (·.1)=none:=by rfl):PG X (.Tuple es k pos) (CB X.K n t):=by
 intro pins s σ H v u Q I r hw;obtain⟨a,xs,e1,hq,hl,hw⟩:=hw;subst e1;cases r;obtain⟨XW,rv,ht,hz⟩:=I.list hq;rw[assign_Tuple];refine XT (NP ?_);unfold unpack;rw[show(assignEach es X.env).length=XW.toArray.size by simp[hn,<- hl,rv.length],VE];refine XT (Td (PySem.W.kun_itemsOf (I.ok.hd hc) ht.isList λh' hx=>?_));have I1:Inv X pins σ H { s with heap:=h' }:=I.kept (t':=s.toks) λb o e=>hx b o (Yz (Yq e)) e
 exact h pins _ σ H xs _ Q I1 (by simpa using rv) hw
theorem CA(K:Ad){k:Nat}{pos:Pos}(hc:X.calm=true)(ht:Kv X es t)
  (hn:(assignEach es X.env).length=n:=by rfl) (VE:(assignEach es X.env).findIdx? (·.1)=none:=by rfl) (h:X.K=K:=by rfl):PG X (.Tuple es k pos) (CB K n t):=h ▸ oN hc ht hn VE
end L2
namespace My
open PySem L2
theorem dr(g:Zz n ps)(h:RowR n ps d I O ld R):∀ T∈R,With n ps I O T:=by
 induction h with
 | und hP _ _ =>
  intro T hT;rcases Yh.mp hT with e | e
  .rw[e];exact hP.tr
  .obtain⟨z,hz,o,ho,rfl⟩:=VW.mp e;exact dz g hP.tr (Yd.mp ((CH hP.inc).mem_iff.mp hz)).1 ho
 | div _ _ _ _ _ _ _ _ _ _ _ _ Cz oM =>
  intro T hT;rcases Xr.mp hT with h | h
  .exact WE.mpr (.inl (Cz T h))
  .exact WE.mpr (.inr (oM T (Ay.mp h)))
theorem ZN9{key:Int->Int}(h:Sj key ns ms):ms.Pairwise λa b=>key a<=key b:=by
 obtain⟨p,h1,h2,rfl⟩:=h;refine Mt.mpr (h2.imp λ{a b} h=>?_);have h:key (ns.getD a 0)<key (ns.getD b 0)\/(key (ns.getD a 0)=key (ns.getD b 0)/\a<b):=h
 lia
theorem dq{k:Int->Int}:∀ {l:Ac},(∀ a∈l,k a=0\/k a=1)->l.Pairwise (λa b=>k a<=k b)->∃ l1 l2,l=l1++l2/\(∀ a∈l1,k a=0)/\∀ a∈l2,k a=1
 | [],_,_=>⟨[],[],rfl,λa h=>(by cases h),λa h=>(by cases h)⟩
 | a :: l,h0,h=>by
  obtain⟨p1,p2⟩:=YV.mp h;rcases h0 a Yc with e | e
  .obtain⟨l1,l2,rfl,q1,q2⟩:=dq (λb hb=>h0 b (Yf _ hb)) p2;exact⟨a :: l1,l2,rfl,λb hb=>(Yh.mp hb).elim (λz=>z ▸ e) (q1 b),q2⟩
  .refine⟨[],a :: l,rfl,λa h=>(by cases h),λb hb=>?_⟩;rcases Yh.mp hb with z | z
   .rw[z];exact e
   .have:=p1 b z
    have:=h0 b (Yf _ z)
    lia
theorem Vs{z a:Int}:(PyProof.Rows.b2i (decide (some z=some a))=0↔a≠z)/\(PyProof.Rows.b2i (decide (some z=some a))=1↔a=z):=by
 by_cases c:a=z
 .subst c;simp[PyProof.Rows.b2i]
 .simp[PyProof.Rows.b2i,c,XG c]
theorem Zl8{ns ms:Ac}{z:Int}(h:Sj (λa=>PyProof.Rows.b2i (decide (some z=some a))) ns ms):∃ l1 l2,ms=l1++l2/\(∀ a∈l1,a≠z)/\∀ a∈l2,a=z:=by
 obtain⟨l1,l2,e,h1,h2⟩:=dq (λa _=>by
  by_cases c:a=z
  .exact .inr (Vs.2.mpr c)
  .exact .inl (Vs.1.mpr c)) (ZN9 h)
 exact⟨l1,l2,e,λa ha=>Vs.1.mp (h1 a ha),λa ha=>Vs.2.mp (h2 a ha)⟩
theorem Hf{z:Int}(h:z∈WU n ps I O F):z∉F:=λq=>(Yo (Yd.mp h).2).1 (Yg _ q)
theorem yB{y z:Int}(h:y∈VX n ps I O F (some z)):y∉F/\y≠z:=by obtain⟨h1,h2⟩:=Yd.mp h;refine⟨Hf h1,λe=>Yo h2 (Yd.mpr ⟨h1,Yr ⟨z,rfl,by rw[e]⟩⟩)⟩
section
variable{n:Int}{ps:Aa}{d:Nat}{I O:Ac}{R:Ab}(g:Zz n ps)
include g
theorem dk(h:RowR n ps d I O ld R):∀ F,With n ps I O F->(∀ U,With n ps I O U->HT.lexLt U F=false)->(∀ z,ld=some z->z∉F)->R[0]?=some F:=by
 induction h with
 | und hP _ _ =>
  intro F hF hm _;rw[SM (hP.least F hF) (hm _ hP.tr)];rfl
 | div hP _ _ _ _ _ _ _ _ _ _ _ Cz _ =>
  intro F hF hm hz;obtain⟨s1,s2⟩:=MU g hF hm (hz _ rfl);have e:=SM (hP.least F hF) (hm _ hP.tr)
  have:=Cz F s1 s2 λy' e'=>by cases e';rw[e];exact(yB (hP.some _ rfl).1).1
  rw[Yu (Xm.mp this).1,this]
end
def QN(T U:Ac):Prop:=(T.filter λy=>decide (y∉U)).length=1
theorem Cy{a:Int}(hT:T.Nodup)(ha:a∈T)(hU:a∉U)(h:∀ v∈T,v∈U\/v=a):QN T U:=by
 have p:(T.filter λy=>decide (y∉U)).Perm [a]:=(Le (hT.filter _) (by simp)).mpr λv=>by
  rw[Yd,YM,XC];constructor
  .exact λq=>(h v q.1).resolve_left q.2
  .rintro rfl;exact⟨ha,hU⟩
 exact p.length_eq
theorem dj(hT:Ze n ps T)(hU:Ze n ps U)(h:QN T U):QN U T:=(eR hU hT).trans h
def Adj{α:Type}(P:α->α->Prop)(l:List α):Prop:=∀(i:Nat) (a b:α),l[i]?=some a->l[i+1]?=some b->P a b
theorem Adj.nil{α:Type}{P:α->α->Prop}:Adj P []:=λi a b h=>by simp at h
theorem Adj.one{α:Type}{P:α->α->Prop}{x:α}:Adj P [x]:=λi a b _ h=>by simp at h
theorem Adj.append{α:Type}{P:α->α->Prop}{l m:List α}(h1:Adj P l)(h2:Adj P m)(h:∀ a b,l[l.length - 1]?=some a->m[0]?=some b->P a b):Adj P (l++m):=λi a b ha hb=>by
 by_cases c:i+1<l.length
 .rw[Yu (by lia)]at ha hb;exact h1 i a b ha hb
 .rw[Ys (by lia)]at hb;by_cases c':i<l.length
  .rw[Yu c',show i=l.length - 1 by lia]at ha;rw[show i+1 - l.length=0 by omega]at hb;exact h a b ha hb
  .rw[Ys (by omega)]at ha;rw[show i+1 - l.length=i - l.length+1 by grind]at hb;exact h2 _ a b ha hb
theorem Adj.rev{α:Type}{P:α->α->Prop}{l:List α}(h:Adj P l)(hs:∀ a∈l,∀ b∈l,P a b->P b a):Adj P l.reverse:=λi a b ha hb=>by
 have hi:=(Xm.mp hb).1;rw[YR]at hi;rw[Ih (by omega)]at ha hb
 have:=h (l.length - 1 - (i+1)) b a hb (by rwa[show l.length - 1 - (i+1)+1=l.length - 1 - i by grind])
 exact hs b (Xi hb) a (Xi ha) this
theorem Cw{α:Type}(l:List α):l.reverse[l.reverse.length - 1]?=l[0]?:=by
 cases l with
 | nil=>rfl
 | cons x l =>
  rw[YR,Ih (by simp)];simp
theorem di{α:Type}(l:List α):l.reverse[0]?=l[l.length - 1]?:=by
 cases l with
 | nil=>rfl
 | cons x l=>rw[Ih (by simp)];simp
theorem dh(hF:F.Nodup)(hz:z∉F):(xchT F o z).Nodup:=(Lv F o z).nodup_iff.mpr (Wr.mpr ⟨hF.filter _,by simp,λa ha b hb e=>hz (by rw[<- XC.mp hb,<- e];exact(Yd.mp ha).1)⟩)
theorem df{n:Int}{ps:Aa}{I F L:Ac}(hF:F.Nodup)(hL:L.Nodup)(oK:∀ o∈L,o∈F):∀(l:Ac) (asc:Bool),l.Nodup->(∀ z∈l,z∉F)->(∀ z∈l,WM n ps I F z=L)->Adj QN (Vv n ps I F l asc)/\∀ U,(Vv n ps I F l asc)[0]?=some U->∃ o z,l[0]?=some z/\(if asc then L[0]? else L[L.length - 1]?)=some o/\U=xchT F o z
 | [],asc,_,_,_=>⟨Adj.nil,λU h=>by simp[Vv]at h⟩
 | z :: l,asc,hn,hz,hl=>by
  obtain⟨n1,n2⟩:=Rb.mp hn;obtain⟨PK,Th⟩:=df hF hL oK l (!asc) n2 (λv hv=>hz v (Yf _ hv)) (λv hv=>hl v (Yf _ hv));have zF:=hz z Yc
  have e0:WM n ps I F z=L:=hl z Yc;have same:∀ o∈L,∀ o'∈L,o≠o'->QN (xchT F o z) (xchT F o' z):=λo ho o' Vu ne=>Cy (a:=o') (dh hF zF) (XE.mpr (.inl ⟨oK o' Vu,XG ne⟩)) (λh=>by
   rcases XE.mp h with q | q
   .exact q.2 rfl
   .exact zF (q ▸ oK o' Vu)) λv hv=>by
   rcases XE.mp hv with q | q
   .by_cases c:v=o'
    .exact .inr c
    .exact .inl (XE.mpr (.inl ⟨q.1,c⟩))
   .exact .inl (XE.mpr (.inr q))
  have am:Adj QN (L.map λo=>xchT F o z):=λi a b ha hb=>by
   rw[Yn]at ha hb;cases ea:L[i]? with
   | none=>rw[ea]at ha;cases ha
   | some o =>
    cases eb:L[i+1]? with
    | none=>rw[eb]at hb;cases hb
    | some o' =>
     rw[ea]at ha;rw[eb]at hb;cases ha;cases hb;refine same o (Xi ea) o' (Xi eb) λe=>?_;subst e
     have:=(List.getElem?_inj (Xm.mp ea).1 hL).mp (ea.trans eb.symm)
     lia
  have ar:Adj QN (VV n ps I F asc z):=by
   unfold VV;rw[e0];cases asc with
   | true=>exact am
   | false =>
    refine am.rev λa ha b hb _=>?_;obtain⟨o,ho,rfl⟩:=YD.mp ha;obtain⟨o',Vu,rfl⟩:=YD.mp hb;by_cases c:o'=o
    .rename_i h;subst c;exact h
    .exact same o' Vu o ho c
  have hlen:(L.map λo=>xchT F o z).length=L.length:=Ya _;have last:∀ U,(VV n ps I F asc z)[(VV n ps I F asc z).length - 1]?=some U->∃ o∈L,(if asc then L[L.length - 1]? else L[0]?)=some o/\U=xchT F o z:=λU h=>by
   unfold VV at h;rw[e0]at h;cases asc with
   | true =>
    rw[if_pos rfl,hlen,Yn]at h;cases e:L[L.length - 1]? with
    | none=>rw[e]at h;cases h
    | some o=>rw[e]at h;cases h;exact⟨o,Xi e,rfl,rfl⟩
   | false =>
    rw[if_neg (by decide),Cw,Yn]at h;cases e:L[0]? with
    | none=>rw[e]at h;cases h
    | some o=>rw[e]at h;cases h;exact⟨o,Xi e,rfl,rfl⟩
  have head:∀ U,(VV n ps I F asc z)[0]?=some U->∃ o,(if asc then L[0]? else L[L.length - 1]?)=some o/\U=xchT F o z:=λU h=>by
   unfold VV at h;rw[e0]at h;cases asc with
   | true =>
    rw[if_pos rfl,Yn]at h;cases e:L[0]? with
    | none=>rw[e]at h;cases h
    | some o=>rw[e]at h;cases h;exact⟨o,rfl,rfl⟩
   | false =>
    rw[if_neg (by decide),di,hlen,Yn]at h;cases e:L[L.length - 1]? with
    | none=>rw[e]at h;cases h
    | some o=>rw[e]at h;cases h;exact⟨o,rfl,rfl⟩
  refine⟨ar.append PK λa b ha hb=>?_,λU h=>?_⟩
  .obtain⟨o,ho,e1,rfl⟩:=last a ha;obtain⟨o',z',oY,e2,rfl⟩:=Th b hb;have eo:o'=o:=by
    cases asc with
    | true=>exact(Yi (e1.symm.trans e2)).symm
    | false=>exact(Yi (e1.symm.trans e2)).symm
   subst eo;have zl:=Xi oY
   refine Cy (a:=z) (dh hF zF) (XE.mpr (.inr rfl)) (λh=>?_) λv hv=>?_
   .rcases XE.mp h with q | q
    .exact zF q.1
    .exact n1 (q ▸ zl)
   .rcases XE.mp hv with q | q
    .exact .inl (XE.mpr (.inl q))
    .exact .inr q
  .cases hh:VV n ps I F asc z with
   | cons x r =>
    have h':(VV n ps I F asc z)[0]?=some U:=by
     have:=h
     unfold Vv at this;rw[hh]at this ⊢;exact this
    obtain⟨o,e1,e2⟩:=head U h';exact⟨o,z,rfl,e1,e2⟩
   | nil =>
    exfalso;have hL0:L=[]:=by
     have:(VV n ps I F asc z).length=L.length:=by unfold VV;rw[e0];cases asc <;> simp
     rw[hh]at this;exact YX.mp this.symm
    obtain⟨o,z',_,e2,_⟩:=Th U (by have:=h;unfold Vv at this;rwa[hh]at this);rw[hL0]at e2;cases asc <;> simp at e2
section
variable{n:Int}{ps:Aa}{d:Nat}{I O F T:Ac}{R:Ab}{y z:Int}(g:Zz n ps)
include g
theorem oJ(hF:With n ps I O F)(hz:z∉F)(Vw:∀ U,With n ps I O U->HT.lexLt U F=false)(hT:With n ps (I++[z]) O T)(Lu:∀ U,With n ps (I++[z]) O U->HT.lexLt U T=false):∃ o∈WM n ps I F z,T=xchT F o z/\∀ o'∈WM n ps I F z,o'<=o:=by
 have half:=SI g hF Vw hT Lu;have zT:z∈T:=hT.2.1 z (by simp)
 obtain⟨o,e1,e2⟩:=Nj g hT.1 hF.1 zT hz;have oT:o∉T:=((LP g hT.1).mp e1).2.1
 have oI:o∉I:=λh=>oT (hT.2.1 o (Ye _ h));have zO:z∉O:=λh=>hT.2.2 z h zT
 have hM:=LO g hF.1 e2 (Lv F o z) (Rv F o z);have eT:T=xchT F o z:=Jj g hT.1 hM λv hv=>XE.mpr <| by
  rcases half v hv with q | q
  .exact .inl ⟨q,λe=>oT (by rwa[<- e])⟩
  .exact .inr q
 refine⟨o,Yd.mpr ⟨Xd.mpr ⟨e2.1,e2.2.2⟩,Yr oI⟩,eT,λo' Vu=>Yx λno=>?_⟩;obtain⟨h3,h4⟩:=Yd.mp Vu;obtain⟨h5,h6⟩:=Xd.mp h3;have he:exg n ps F o' z:=⟨h5,λe=>hz (by rwa[e]),h6⟩
 have w:=CK g hF he (Yo h4) zO (Lv F o' z) (Rv F o' z);have w2:With n ps (I++[z]) O (xchT F o' z):=(WE (z:=z).mp w).resolve_left λq=>q.2.2 z (by simp) (XE.mpr (.inr rfl))
 have lt:HT.lexLt (xchT F o' z) T=true:=by
  refine(ql (XU.mp w.1.1).2 (XU.mp hT.1.1).2 (by have:=w.1.2.1;have:=hT.1.2.1;lia)).mpr ⟨o,XE.mpr (.inl ⟨e2.1,λe=>no (by lia)⟩),oT,λs hs=>?_⟩;rw[eT,XE,XE];constructor
  .rintro(q | q)
   .exact .inl ⟨q.1,by lia⟩
   .exact .inr q
  .rintro(q | q)
   .exact .inl ⟨q.1,by lia⟩
   .exact .inr q
 rw[Lu _ w2]at lt;cases lt
theorem oH(Xn:∀ v∈I,0<=v/\v<(ps.length:Int))(h:RowR n ps d I O (some z) R)(hF:With n ps I O F)(Vw:∀ U,With n ps I O U->HT.lexLt U F=false)(hz:z∉F)(hT:With n ps (I++[z]) O T)(Lu:∀ U,With n ps (I++[z]) O U->HT.lexLt U T=false):R[R.length - 1]?=some T:=by
 cases h with
 | und hP hl hi =>
  rename_i F' inc;have eF:=SM (hP.least F hF) (Vw _ hP.tr)
  subst eF;obtain⟨o,ho,eT,Jf⟩:=oJ g hF hz Vw hT Lu;have zo:z∈WU n ps I O F:=o5 g Xn (WE.mpr (.inr hT)) hF.2.1 (hT.2.1 z (by simp)) hz
  have za:z∈TB n ps I O F (some z):=Yd.mpr ⟨zo,Yr ⟨z,rfl,rfl⟩⟩;have hp:=CH hP.inc
  have Ti:inc.Nodup:=hp.nodup_iff.mpr (((((RJ _).imp λh e=>by lia:(VP ps.length).Nodup)).filter _).filter _);have zi:=hp.mem_iff.mpr za
  obtain⟨l1,l2,rfl,q1,q2⟩:=Zl8 hP.inc;have e2:l2=[z]:=by
   obtain⟨_,n2,_⟩:=Wr.mp Ti;have zl:z∈l2:=(Xr.mp zi).resolve_left λh=>q1 z h rfl
   match l2,zl,n2,q2 with
   | [a],_,_,q=>rw[q a (by simp)]
   | a :: b :: r,_,nd,q =>
    have e1:=q a (by simp);have e2:=q b (by simp)
    rw[e1,e2]at nd;simp at nd
  subst e2;have flag:(((l1++[z]).length % 2 == 1) != (l1.length % 2 == 1))=true:=by
   rw[Xv,Yp];rcases Nat.mod_two_eq_zero_or_one l1.length with c | c
   .rw[c,show(l1.length+1) % 2=1 by lia];rfl
   .rw[c,show(l1.length+1) % 2=0 by lia];rfl
  unfold CI;rw[Jh,flag];unfold VV;rw[if_pos rfl];have asc:(WM n ps I F z).Pairwise (· < ·):=(((XU.mp hF.1.1).2).filter _).filter _
  have pos:=Ij ho;have lo:(WM n ps I F z)[(WM n ps I F z).length - 1]?=some o:=by
   obtain⟨i,hi,e⟩:=RW ho;by_cases c:i=(WM n ps I F z).length - 1
   .rw[<- c,Xu hi,e]
   .have lt:=Ik.mp asc i ((WM n ps I F z).length - 1) hi (by omega) (by lia);have le:=Jf _ (Oc (show(WM n ps I F z).length - 1<_ by omega))
    rw[e]at lt;lia
  show((F :: Vv n ps I F l1 ((l1++[z]).length % 2 == 1))++(WM n ps I F z).map λo=>xchT F o z)[_]?=_;rw[Ys (by simp;lia),Yn]
  have:((F :: (Vv n ps I F l1 ((l1++[z]).length % 2 == 1)++(WM n ps I F z).map λo=>xchT F o z)).length - 1 - (F :: Vv n ps I F l1 ((l1++[z]).length % 2 == 1)).length)=(WM n ps I F z).length - 1:=by
   simp;lia
  rw[this,lo,eT];rfl
 | div hP a1 a2 a3 a4 a5 a6 a7 a8 a9 hA hB =>
  rename_i d F' inc y A B;have eF:=SM (hP.least F hF) (Vw _ hP.tr)
  subst eF;obtain⟨yF,yz⟩:=yB (hP.some _ rfl).1;have hf:=dk g hB T hT Lu λv e=>by cases e;exact λq=>(SI g hF Vw hT Lu y q).elim yF yz
  have hb:=(Xm.mp hf).1;rw[<- Cw]at hf;rw[Ys (by rw[Xv,YR];lia)];rw[YR]at hf;rwa[show(A++B.reverse).length - 1 - A.length=B.length - 1 by rw[Xv,YR];lia]
theorem oG(Xn:∀ v∈I,0<=v/\v<(ps.length:Int))(hF:With n ps I O F)(y0:0<=y/\y<(ps.length:Int))(z0:0<=z/\z<(ps.length:Int))(h:UK (Xs n.toNat (XQ ps I)) ps y=UK (Xs n.toNat (XQ ps I)) ps z):WM n ps I F y=WM n ps I F z:=by
 have key:∀ a∈F,a∉I->(y∈VQ n ps F a↔z∈VQ n ps F a):=λa ha hn=>by
  rw[ZX g hF.1 y0.1 y0.2,ZX g hF.1 z0.1 z0.2];refine not_congr ?_;have up:∀ {i j},Conn (XQ ps I) i j->Conn (XQ ps (wo F a)) i j:=λc=>c.mono (ZQ λv hv=>Xo.mpr ⟨hF.2.1 v hv,λe=>hn (by rwa[<- e])⟩)
  rcases dE g Xn y0.1 y0.2 z0.1 z0.2 h with ⟨a,b⟩ | ⟨a,b⟩
  .exact⟨λc=>((up a).symm.trans c).trans (up b),λc=>((up a).trans c).trans (up b).symm⟩
  .exact⟨λc=>((up b).symm.trans c.symm).trans (up a),λc=>((up a).trans c.symm).trans (up b).symm⟩
 unfold WM UW;rw[Az,Az];refine Ms λa ha=>?_;by_cases c:a∈I
 .simp[c]
 .have:=key a ha c
  unfold VQ at this;simp[c,this]
theorem oE(Xn:∀ v∈I,0<=v/\v<(ps.length:Int))(hF:With n ps I O F)(Vw:∀ U,With n ps I O U->HT.lexLt U F=false)(hz:z∈WU n ps I O F)(hy:y∈VX n ps I O F (some z)):y∈WU n ps I (O++[z]) F/\(With n ps (I++[z]) O F2->(∀ U,With n ps (I++[z]) O U->HT.lexLt U F2=false)->y∈WU n ps (I++[z]) O F2):=by
 obtain⟨yF,yz⟩:=yB hy;obtain⟨yo,ya⟩:=Yd.mp hy;obtain⟨MT,yI,yO,_,yc⟩:=(ZZ g Xn).mp yo;obtain⟨Lr,zI,zO,zF,zc⟩:=(ZZ g Xn).mp hz;refine⟨(ZZ g Xn).mpr ⟨MT,yI,λh=>(Xr.mp h).elim yO λh=>yz (XC.mp h),yF,yc⟩,λh2 h2m=>?_⟩;have Uu:∀ v∈I++[z],0<=v/\v<(ps.length:Int):=λv hv=>(Xr.mp hv).elim (Xn v) λh=>by rwa[XC.mp h]
 refine(ZZ g Uu).mpr ⟨MT,λh=>(Xr.mp h).elim yI λh=>yz (XC.mp h),yO,λh=>(SI g hF Vw h2 h2m y h).elim yF yz,λc=>?_⟩;have e:XQ ps (I++[z])=XQ ps I++[((Zx ps z).1,(Zx ps z).2)]:=YJ
 rw[e]at c;rcases dw c with h | h
 .exact yc h
 .exact Yo ya (Yd.mpr ⟨yo,Yr ⟨z,rfl,CG g Xn MT Lr h⟩⟩)
end
theorem ZY7(g:Zz n ps)(h:RowR n ps d I O ld R):(∀ v∈I,0<=v/\v<(ps.length:Int))->(∀ F z,With n ps I O F->(∀ U,With n ps I O U->HT.lexLt U F=false)->ld=some z->z∈WU n ps I O F)->Adj QN R:=by
 induction h with
 | @und d I O F inc ld hP hl hi =>
  intro Xn Cv;have hp:=CH hP.inc
  have Ti:inc.Nodup:=hp.nodup_iff.mpr (((((RJ _).imp λh e=>by omega:(VP ps.length).Nodup)).filter _).filter _);have oz:=hP.tr.1.1.nodup
  cases ld with
  | none =>
   have e:inc=[]:=by refine AJ.mpr λz hz=>?_;obtain⟨y,h,_⟩:=Yo (Yd.mp (hp.mem_iff.mp hz)).2;cases h
   subst e;exact Adj.one
  | some z =>
   have zo:=Cv F z hP.tr hP.least rfl;obtain⟨Lr,_⟩:=(ZZ g Xn).mp zo;obtain⟨c1,c2⟩:=df (n:=n) (ps:=ps) (I:=I) (F:=F) (L:=WM n ps I F z) oz ((oz.filter _).filter _) (λo ho=>(Xd.mp (Yd.mp ho).1).1) inc (inc.length % 2 == 1) Ti (λv hv=>(hi v hv).1) (λv hv=>by obtain⟨y,e,h⟩:=Yo (Yd.mp (hp.mem_iff.mp hv)).2;cases e;exact oG g Xn hP.tr (hi v hv).2 Lr h)
   show Adj QN ([F]++Vv n ps I F inc (inc.length % 2 == 1));refine Adj.one.append c1 λa b ha hb=>?_;cases ha;obtain⟨o,v,hv,ho,rfl⟩:=c2 b hb;have vF:=(hi v (Xi hv)).1
   have oL:o∈WM n ps I F z:=by
    split at ho
    .exact Xi ho
    .exact Xi ho
   have oF:=(Xd.mp (Yd.mp oL).1).1;refine Cy (a:=o) oz oF (λh=>?_) λw hw=>?_
   .rcases XE.mp h with q | q
    .exact q.2 rfl
    .exact vF (q ▸ oF)
   .by_cases c:w=o
    .exact .inr c
    .exact .inl (XE.mpr (.inl ⟨hw,c⟩))
 | @div d I O F inc z y A B hP hIn Uu UN hO hW _ _ _ _ hA hB Cz oM =>
  intro Xn Cv;have zo:=Cv F z hP.tr hP.least rfl
  have zF:=Hf zo;have yu:=(hP.some y rfl).1
  obtain⟨yF,yz⟩:=yB yu;obtain⟨s1,s2⟩:=MU g hP.tr hP.least zF;obtain⟨F2,_,_,Ru⟩:=Ls g (some y) hW;obtain⟨y1,y2⟩:=oE (F2:=F2) g Xn hP.tr hP.least zo yu;have y2:=y2 Ru.tr Ru.least
  have aA:=Cz Xn λF' v h1 h2 e=>by cases e;rwa[SM (s2 F' h1) (h2 F s1)]
  have aB:=oM Uu λF' v h1 h2 e=>by cases e;rwa[SM (Ru.least F' h1) (h2 F2 Ru.tr)]
  refine aA.append (aB.rev λa ha b hb q=>dj (dr g hB a ha).1 (dr g hB b hb).1 q) λa b ha hb=>?_;rw[di]at hb;obtain⟨G,_,_,hG⟩:=Ls g none (yG g Xn hP.tr (Yd.mp yu).1);have zG:z∉G:=λh=>(SI g hP.tr hP.least hG.tr hG.least z h).elim zF (XG yz)
  obtain⟨g1,g2⟩:=MU g hG.tr hG.least zG;have ea:=oH g Xn hA s1 s2 yF g1 g2
  rw[<- Yi (ea.symm.trans ha)];obtain⟨T2,_,_,h2⟩:=Ls g none (yG g Uu Ru.tr y2);have eb:=oH g Uu hB Ru.tr Ru.least (Hf y2) h2.tr h2.least
  rw[<- Yi (eb.symm.trans hb)];have sw:∀ U,With n ps (I++[z]++[y]) O U↔With n ps (I++[y]++[z]) O U:=λU=>by
   unfold With;refine and_congr_right λ_=>and_congr_left λ_=>⟨λh v hv=>h v ?_,λh v hv=>h v ?_⟩
   all_goals
    simp only [Xr,XC]at hv ⊢;rcases hv with (q | q) | q
    .exact .inl (.inl q)
    .exact .inr q
    .exact .inl (.inr q)
  have hh:=SI g hG.tr hG.least ((sw T2).mp h2.tr) λU hU=>h2.least U ((sw U).mpr hU);exact dj h2.tr.1 g1.1 (Cy (a:=z) h2.tr.1.1.nodup (h2.tr.2.1 z (by simp)) zG λv hv=>hh v hv)
theorem oy{l:Ac}{ld He:Option Int}(h1:ld=none↔l=[])(h2:∀ y,ld=some y->y∈l/\∀ z∈l,y<=z)(Hl:He=none↔l=[])(oU:∀ y,He=some y->y∈l/\∀ z∈l,y<=z):ld=He:=by
 cases ld with
 | none=>exact(Hl.mpr (h1.mp rfl)).symm
 | some y =>
  cases He with
  | none=>exact absurd (h1.mpr (Hl.mp rfl)) (by simp)
  | some y' =>
   obtain⟨a1,a2⟩:=h2 y rfl;obtain⟨b1,b2⟩:=oU y' rfl
   have:=a2 y' b1
   have:=b2 y a1
   rw[show y=y' by lia]
theorem UJ:With n ps [] [] T↔Ze n ps T:=⟨λh=>h.1,λh=>⟨h,λz q=>(by cases q),λz q=>(by cases q)⟩⟩
theorem Zy6{F L:Ac}(g:Zz n ps)(hR:RowW n ps R)(hF:Ze n ps F)(Vw:∀ U,Ze n ps U->HT.lexLt U F=false):R[0]?=some F/\Adj QN R/\(1<R.length->R[R.length - 1]?=some L->QN L F):=by
 have Hd:=UJ.mpr hF;have MR:∀ U,With n ps [] [] U->HT.lexLt U F=false:=λU hU=>Vw U hU.1
 have Xn:∀ v∈([]:Ac),0<=v/\v<(ps.length:Int):=λv h=>by cases h
 obtain⟨ld,F',inc,fu,hP,h1,h2,Hc,_⟩:=id hR;have eF:F'=F:=SM (Vw F' hP.tr.1) (hP.least F Hd)
 subst eF;refine⟨dk g Hc F' Hd MR λz e=>Hf (h2 z e).1,ZY7 g Hc Xn λF2 z a b e=>?_,λhl hL=>?_⟩
 .rw[SM (MR F2 a) (b F' Hd)];exact(h2 z e).1
 .cases ld with
  | none =>
   exfalso;have eo:=h1.mp rfl
   cases Hc with
   | und ox _ _ =>
    obtain⟨rfl,rfl,rfl⟩:=hP.uniq ox;have e:inc=[]:=AJ.mpr λz hz=>by
     have:=(Yd.mp ((CH hP.inc).mem_iff.mp hz)).1
     rw[eo]at this;cases this
    subst e;exact absurd hl (by show ¬ 1<1;decide)
  | some z =>
   have zo:=(h2 z rfl).1;obtain⟨T2,_,_,Hb⟩:=Ls g none (yG g Xn Hd zo);rw[oH g Xn Hc Hd MR (Hf zo) Hb.tr Hb.least]at hL;obtain rfl:=Yi hL;exact Cy (a:=z) Hb.tr.1.1.nodup (Hb.tr.2.1 z (by simp)) (Hf zo) λv hv=>SI g Hd MR Hb.tr Hb.least v hv
theorem WP.pairs(h:WP n ps W T0 l ws T)(hl:∀ z∈l,z∈W):(∀ y∈T,y∈T0\/y∈W)/\(∀ y∈T0,y∈W->y∈T)/\∀ p∈ws,p.1∈T0/\p.1∉W/\p.2∈W/\p.2∉T0:=by
 induction h with
 | nil=>exact⟨λy h=>.inl h,λy h _=>h,λp h=>by cases h⟩
 | @skip l ws T z h1 h2 ih=>exact ih λy hy=>hl y (Ye _ hy)
 | @step l ws T T' z o h1 h2 h3 h4 h5 h6 h7 ih =>
  obtain⟨i1,i2,i3⟩:=ih λy hy=>hl y (Ye _ hy);have hz:=hl z (Yg _ (XC.mpr rfl))
  have mem:∀ y,y∈T'↔(y∈T/\y≠o)\/y=z:=λy=>by rw[h6.mem_iff,Xr,Xo,XC]
  refine⟨λy hy=>?_,λy a b=>?_,λp hp=>?_⟩
  .rcases(mem y).mp hy with q | q
   .exact i1 y q.1
   .exact .inr (q ▸ hz)
  .exact(mem y).mpr (.inl ⟨i2 y a b,λe=>h4 (e ▸ b)⟩)
  .rcases Xr.mp hp with q | q
   .exact i3 p q
   .rw[XC.mp q];exact⟨(i1 o (Xl.mp h3).1).resolve_right h4,h4,hz,λe=>h2 (i2 z e hz)⟩
def dst(T U:Ac):Nat:=(T.filter λy=>decide (y∉U)).length
theorem ou(T:Ac):dst T T=0:=by unfold dst;rw[YX,xN];intro y hy;simpa using hy
theorem oq{T U V:Ac}(hT:T.Nodup):dst T V<=dst T U+dst U V:=by
 unfold dst;rw[<- Xv];refine LM (hT.filter _) λy hy=>?_;obtain⟨a,b⟩:=Yd.mp hy;by_cases c:y∈U
 .exact Yg _ (Yd.mpr ⟨c,b⟩)
 .exact Ye _ (Yd.mpr ⟨a,Yr c⟩)
theorem yA{R:Ab}(hA:Adj QN R)(hN:∀ T∈R,T.Nodup){i:Nat}{T:Ac}(hT:R[i]?=some T):∀(d:Nat) (U:Ac),R[i+d]?=some U->dst T U<=d
 | 0,U,h=>by rw[Nat.add_zero,hT]at h;cases h;rw[ou];exact XJ 0
 | d+1,U,h=>by
  have hl:=(Xm.mp h).1;have hv:=Xu (show i+d<R.length by lia)
  have a:=yA hA hN hT d _ hv;have b:dst (R[i+d]'(by lia)) U=1:=hA (i+d) _ _ hv h
  have c:=oq (T:=T) (U:=R[i+d]'(by lia)) (V:=U) (hN T (Xi hT));lia
theorem de{n:Int}{ps:Aa}{R:Ab}(g:Zz n ps)(hR:RowW n ps R)(hm:∀ U∈R,Ze n ps U){i j:Nat}{T U:Ac}(hT:R[i]?=some T)(hU:R[i+j]?=some U):dst T U<=j/\dst U T<=j/\dst T U<=R.length - j/\dst U T<=R.length - j:=by
 have hl:=(Xm.mp hU).1;have hn:∀ V∈R,V.Nodup:=λV hV=>(hm V hV).1.nodup
 have hv:=Xu (show R.length - 1<R.length by lia);obtain⟨ld,F,inc,fu,hP,_⟩:=id hR;obtain⟨h0,hA,hc⟩:=Zy6 (L:=R[R.length - 1]'(by lia)) g hR hP.tr.1 λU hU=>hP.least U (UJ.mpr hU);have iT:=hm T (Xi hT)
 have iU:=hm U (Xi hU);have e:dst T U=dst U T:=eR iT iU
 have a:=yA hA hn hT j U hU;refine⟨a,e ▸ a,?_⟩;have b:dst U T<=R.length - j:=by
  by_cases c:1<R.length
  .have s:dst (R[R.length - 1]'(by lia)) F=1:=hc c hv;have p:=yA hA hn h0 i T (by rwa[NZ])
   have q:=yA hA hn hU (R.length - 1 - (i+j)) _ (by rwa[show i+j+(R.length - 1 - (i+j))=R.length - 1 by lia]);have t1:=oq (T:=U) (U:=R[R.length - 1]'(by lia)) (V:=F) iU.1.nodup
   have t2:=oq (T:=U) (U:=F) (V:=T) iU.1.nodup;lia
  .have:j=0:=by lia
   lia
 exact⟨e ▸ b,b⟩
def top(i:Nat):Stmt:=PySem.Challenge.pw_spanrow_k96_whole_walks_along_the_row.main.body.getD i (.Pass ⟨0,0,0,0⟩)
abbrev sZ0:Stmt:=top 36
abbrev sZ1:Stmt:=top 37
abbrev sZ2:Stmt:=top 38
abbrev sZ3:Stmt:=top 39
abbrev sZ4:Stmt:=top 40
abbrev sZ5:Stmt:=top 41
abbrev sZ6:Stmt:=top 14
abbrev sZ7:Stmt:=top 13
abbrev sZ8:Stmt:=gY (top 12) 0
abbrev sZ9:Stmt:=top 15
abbrev sZa:Stmt:=top 16
abbrev sZb:Stmt:=top 17
abbrev sZc:Stmt:=top 18
abbrev sZd:Stmt:=top 19
abbrev sZe:Stmt:=top 20
abbrev sZf:Stmt:=top 21
abbrev sZg:Stmt:=top 22
abbrev sZh:Stmt:=top 43
abbrev sZi:Stmt:=top 44
abbrev sZj:Stmt:=top 45
abbrev sZk:Stmt:=top 46
abbrev sZl:Stmt:=top 24
abbrev sZm:Stmt:=top 25
abbrev sZn:Stmt:=top 26
abbrev sZo:Stmt:=top 27
abbrev sZp:Stmt:=top 28
abbrev sZq:Stmt:=top 29
abbrev sZr:Stmt:=top 48
abbrev sZs:Stmt:=top 51
abbrev sZt:Stmt:=top 52
abbrev sZu:Stmt:=gY (top 53) 0
abbrev sZv:Stmt:=top 54
abbrev sZw:Stmt:=top 55
abbrev sZx:Stmt:=top 56
abbrev sZy:Stmt:=top 57
abbrev sZz:Stmt:=top 58
abbrev sZA:Stmt:=top 59
abbrev sZB:Stmt:=top 60
abbrev sZC:Stmt:=top 49
abbrev sZD:Stmt:=top 61
abbrev sZE:Stmt:=top 62
abbrev sZF:Stmt:=top 31
abbrev sZG:Stmt:=top 32
abbrev sZH:Stmt:=top 33
abbrev sZI:Stmt:=top 34
abbrev sZJ:Stmt:=top 66
abbrev sZK:Stmt:=top 67
abbrev sZL:Stmt:=top 68
abbrev sZM:Stmt:=top 69
abbrev sZN:Stmt:=top 71
abbrev sZO:Stmt:=top 72
abbrev sZP:Stmt:=top 73
abbrev sZQ:Stmt:=top 74
abbrev sZR:Stmt:=top 75
abbrev sZS:Stmt:=top 76
abbrev sZT:Stmt:=top 77
abbrev sZU:Stmt:=top 78
abbrev sZV:Stmt:=top 79
abbrev sZW:Stmt:=top 80
abbrev sZX:Stmt:=top 81
set_option genInjectivity false in
structure Adr where
 aZ0:Addr
 dZ0:FuncData
 aZ1:Addr
 dZ1:FuncData
 aZ2:Addr
 dZ2:FuncData
 aZ3:Addr
 dZ3:FuncData
 aZ4:Addr
 dZ4:FuncData
 aZ5:Addr
 dZ5:FuncData
 aZ6:Addr
 dZ6:FuncData
 aZ7:Addr
 dZ7:FuncData
 aZ8:Addr
 dZ8:FuncData
 aZ9:Addr
 dZ9:FuncData
 aZa:Addr
 dZa:FuncData
 aZb:Addr
 dZb:FuncData
 aZc:Addr
 dZc:FuncData
 aZd:Addr
 dZd:FuncData
 aZe:Addr
 dZe:FuncData
 aZf:Addr
 dZf:FuncData
 aZg:Addr
 dZg:FuncData
 aZh:Addr
 dZh:FuncData
 aZi:Addr
 dZi:FuncData
 aZj:Addr
 dZj:FuncData
 aZk:Addr
 dZk:FuncData
 aZl:Addr
 dZl:FuncData
 aZm:Addr
 dZm:FuncData
 aZn:Addr
 dZn:FuncData
 aZo:Addr
 dZo:FuncData
 aZp:Addr
 dZp:FuncData
 aZq:Addr
 dZq:FuncData
 aZr:Addr
 dZr:FuncData
 aZs:Addr
 dZs:FuncData
 aZt:Addr
 dZt:FuncData
 aZu:Addr
 dZu:FuncData
 aZv:Addr
 dZv:FuncData
 aZw:Addr
 dZw:FuncData
 aZx:Addr
 dZx:FuncData
 aZy:Addr
 dZy:FuncData
 aZz:Addr
 dZz:FuncData
 aZA:Addr
 dZA:FuncData
 aZB:Addr
 dZB:FuncData
 aZC:Addr
 dZC:FuncData
 aZD:Addr
 dZD:FuncData
 aZE:Addr
 dZE:FuncData
 aZF:Addr
 dZF:FuncData
 aZG:Addr
 dZG:FuncData
 aZH:Addr
 dZH:FuncData
 aZI:Addr
 dZI:FuncData
 aZJ:Addr
 dZJ:FuncData
 aZK:Addr
 dZK:FuncData
 aZL:Addr
 dZL:FuncData
 aZM:Addr
 dZM:FuncData
 aZN:Addr
 dZN:FuncData
 aZO:Addr
 dZO:FuncData
 aZP:Addr
 dZP:FuncData
 aZQ:Addr
 dZQ:FuncData
 aZR:Addr
 dZR:FuncData
 aZS:Addr
 dZS:FuncData
 aZT:Addr
 dZT:FuncData
 aZU:Addr
 dZU:FuncData
 aZV:Addr
 dZV:FuncData
 aZW:Addr
 dZW:FuncData
 aZX:Addr
 dZX:FuncData
 A_Web:Addr
 A_Part:Addr
structure Txt (K:Ad) (mg:Af) (t:Adr):Prop where
 fZ0:Fun K "refuse_not_square" "refuse_not_square" sZ0 t.aZ0 t.dZ0
 bZ0:Binds K t.dZ0 ["table"] []
 mZ0:mg "refuse_not_square"=some (.ref t.aZ0)
 fZ1:Fun K "row_taken_off" "row_taken_off" sZ1 t.aZ1 t.dZ1
 bZ1:Binds K t.dZ1 ["row","pivot","last"] []
 mZ1:mg "row_taken_off"=some (.ref t.aZ1)
 fZ2:Fun K "first_with_some" "first_with_some" sZ2 t.aZ2 t.dZ2
 bZ2:Binds K t.dZ2 ["rows"] []
 mZ2:mg "first_with_some"=some (.ref t.aZ2)
 fZ3:Fun K "determinant" "determinant" sZ3 t.aZ3 t.dZ3
 bZ3:Binds K t.dZ3 ["table"] []
 mZ3:mg "determinant"=some (.ref t.aZ3)
 fZ4:Fun K "row_without" "row_without" sZ4 t.aZ4 t.dZ4
 bZ4:Binds K t.dZ4 ["row","number"] []
 mZ4:mg "row_without"=some (.ref t.aZ4)
 fZ5:Fun K "table_without" "table_without" sZ5 t.aZ5 t.dZ5
 bZ5:Binds K t.dZ5 ["table","number"] []
 mZ5:mg "table_without"=some (.ref t.aZ5)
 fZ6:Fun K "is_tie" "is_tie" sZ6 t.aZ6 t.dZ6
 bZ6:Binds K t.dZ6 ["web","number"] []
 mZ6:mg "is_tie"=some (.ref t.aZ6)
 fZ7:Fun K "refuse_bad_web" "refuse_bad_web" sZ7 t.aZ7 t.dZ7
 bZ7:Binds K t.dZ7 ["places","ties"] []
 mZ7:mg "refuse_bad_web"=some (.ref t.aZ7)
 fZ8:Fun K "__init__" "Web.__init__" sZ8 t.aZ8 t.dZ8
 bZ8:Binds K t.dZ8 ["self","places","ties"] []
 fZ9:Fun K "ties_beside" "ties_beside" sZ9 t.aZ9 t.dZ9
 bZ9:Binds K t.dZ9 ["web","ties"] []
 mZ9:mg "ties_beside"=some (.ref t.aZ9)
 fZa:Fun K "ties_without" "ties_without" sZa t.aZa t.dZa
 bZa:Binds K t.dZa ["ties","left_out"] []
 mZa:mg "ties_without"=some (.ref t.aZa)
 fZb:Fun K "is_set" "is_set" sZb t.aZb t.dZb
 bZb:Binds K t.dZb ["web","ties"] []
 mZb:mg "is_set"=some (.ref t.aZb)
 fZc:Fun K "made_set" "made_set" sZc t.aZc t.dZc
 bZc:Binds K t.dZc ["web","ties"] []
 mZc:mg "made_set"=some (.ref t.aZc)
 fZd:Fun K "merged_marks" "merged_marks" sZd t.aZd t.dZd
 bZd:Binds K t.dZd ["web","marks","ties"] []
 mZd:mg "merged_marks"=some (.ref t.aZd)
 fZe:Fun K "piece_marks" "piece_marks" sZe t.aZe t.dZe
 bZe:Binds K t.dZe ["web","ties"] []
 mZe:mg "piece_marks"=some (.ref t.aZe)
 fZf:Fun K "pieces_of" "pieces_of" sZf t.aZf t.dZf
 bZf:Binds K t.dZf ["web","ties"] []
 mZf:mg "pieces_of"=some (.ref t.aZf)
 fZg:Fun K "is_joined" "is_joined" sZg t.aZg t.dZg
 bZg:Binds K t.dZg ["web","ties"] []
 mZg:mg "is_joined"=some (.ref t.aZg)
 fZh:Fun K "weighted_table" "weighted_table" sZh t.aZh t.dZh
 bZh:Binds K t.dZh ["web","weights"] []
 mZh:mg "weighted_table"=some (.ref t.aZh)
 fZi:Fun K "pull_table" "pull_table" sZi t.aZi t.dZi
 bZi:Binds K t.dZi ["web"] []
 mZi:mg "pull_table"=some (.ref t.aZi)
 fZj:Fun K "tree_count" "tree_count" sZj t.aZj t.dZj
 bZj:Binds K t.dZj ["web"] []
 mZj:mg "tree_count"=some (.ref t.aZj)
 fZk:Fun K "part_count" "part_count" sZk t.aZk t.dZk
 bZk:Binds K t.dZk ["web","inside","outside"] []
 mZk:mg "part_count"=some (.ref t.aZk)
 fZl:Fun K "is_tree" "is_tree" sZl t.aZl t.dZl
 bZl:Binds K t.dZl ["web","ties"] []
 mZl:mg "is_tree"=some (.ref t.aZl)
 fZm:Fun K "refuse_no_tree" "refuse_no_tree" sZm t.aZm t.dZm
 bZm:Binds K t.dZm ["web","tree"] []
 mZm:mg "refuse_no_tree"=some (.ref t.aZm)
 fZn:Fun K "grown_tree" "grown_tree" sZn t.aZn t.dZn
 bZn:Binds K t.dZn ["web","inside","order"] []
 mZn:mg "grown_tree"=some (.ref t.aZn)
 fZo:Fun K "tree_cut" "tree_cut" sZo t.aZo t.dZo
 bZo:Binds K t.dZo ["web","tree","tie"] []
 mZo:mg "tree_cut"=some (.ref t.aZo)
 fZp:Fun K "ring_of" "ring_of" sZp t.aZp t.dZp
 bZp:Binds K t.dZp ["web","tree","tie"] []
 mZp:mg "ring_of"=some (.ref t.aZp)
 fZq:Fun K "exchanged" "exchanged" sZq t.aZq t.dZq
 bZq:Binds K t.dZq ["web","tree","out","into"] []
 mZq:mg "exchanged"=some (.ref t.aZq)
 fZr:Fun K "least_in" "least_in" sZr t.aZr t.dZr
 bZr:Binds K t.dZr ["web","inside","outside"] []
 mZr:mg "least_in"=some (.ref t.aZr)
 fZs:Fun K "end_pieces" "end_pieces" sZs t.aZs t.dZs
 bZs:Binds K t.dZs ["web","marks","tie"] []
 mZs:mg "end_pieces"=some (.ref t.aZs)
 fZt:Fun K "open_ties" "open_ties" sZt t.aZt t.dZt
 bZt:Binds K t.dZt ["web","marks","gone"] []
 mZt:mg "open_ties"=some (.ref t.aZt)
 fZu:Fun K "__init__" "Part.__init__" sZu t.aZu t.dZu
 bZu:Binds K t.dZu ["self","web","kept","shut","lead"] []
 fZv:Fun K "whole_part" "whole_part" sZv t.aZv t.dZv
 bZv:Binds K t.dZv ["web"] []
 mZv:mg "whole_part"=some (.ref t.aZv)
 fZw:Fun K "half_without" "half_without" sZw t.aZw t.dZw
 bZw:Binds K t.dZw ["part"] []
 mZw:mg "half_without"=some (.ref t.aZw)
 fZx:Fun K "half_with" "half_with" sZx t.aZx t.dZx
 bZx:Binds K t.dZx ["part"] []
 mZx:mg "half_with"=some (.ref t.aZx)
 fZy:Fun K "part_size" "part_size" sZy t.aZy t.dZy
 bZy:Binds K t.dZy ["part"] []
 mZy:mg "part_size"=some (.ref t.aZy)
 fZz:Fun K "trees_with_tie" "trees_with_tie" sZz t.aZz t.dZz
 bZz:Binds K t.dZz ["part","into"] []
 mZz:mg "trees_with_tie"=some (.ref t.aZz)
 fZA:Fun K "undivided_row" "undivided_row" sZA t.aZA t.dZA
 bZA:Binds K t.dZA ["part"] []
 mZA:mg "undivided_row"=some (.ref t.aZA)
 fZB:Fun K "trees_between" "trees_between" sZB t.aZB t.dZB
 bZB:Binds K t.dZB ["part","size","start","stop"] []
 mZB:mg "trees_between"=some (.ref t.aZB)
 fZC:Fun K "refuse_below_nought" "refuse_below_nought" sZC t.aZC t.dZC
 bZC:Binds K t.dZC ["number"] []
 mZC:mg "refuse_below_nought"=some (.ref t.aZC)
 fZD:Fun K "row_from" "row_from" sZD t.aZD t.dZD
 bZD:Binds K t.dZD ["web","number","most"] []
 mZD:mg "row_from"=some (.ref t.aZD)
 fZE:Fun K "row_at" "row_at" sZE t.aZE t.dZE
 bZE:Binds K t.dZE ["web","number"] []
 mZE:mg "row_at"=some (.ref t.aZE)
 fZF:Fun K "differ" "differ" sZF t.aZF t.dZF
 bZF:Binds K t.dZF ["web","one","other"] []
 mZF:mg "differ"=some (.ref t.aZF)
 fZG:Fun K "walk_between" "walk_between" sZG t.aZG t.dZG
 bZG:Binds K t.dZG ["web","one","other"] []
 mZG:mg "walk_between"=some (.ref t.aZG)
 fZH:Fun K "walked" "walked" sZH t.aZH t.dZH
 bZH:Binds K t.dZH ["web","tree","walk"] []
 mZH:mg "walked"=some (.ref t.aZH)
 fZI:Fun K "partner_of" "partner_of" sZI t.aZI t.dZI
 bZI:Binds K t.dZI ["web","one","other","tie"] []
 mZI:mg "partner_of"=some (.ref t.aZI)
 fZJ:Fun K "is_number" "is_number" sZJ t.aZJ t.dZJ
 bZJ:Binds K t.dZJ ["word"] []
 mZJ:mg "is_number"=some (.ref t.aZJ)
 fZK:Fun K "read_number" "read_number" sZK t.aZK t.dZK
 bZK:Binds K t.dZK ["word"] []
 mZK:mg "read_number"=some (.ref t.aZK)
 fZL:Fun K "read_line" "read_line" sZL t.aZL t.dZL
 bZL:Binds K t.dZL ["line","name","many"] []
 mZL:mg "read_line"=some (.ref t.aZL)
 fZM:Fun K "read_web" "read_web" sZM t.aZM t.dZM
 bZM:Binds K t.dZM ["text"] []
 mZM:mg "read_web"=some (.ref t.aZM)
 fZN:Fun K "_law_cell" "_law_cell" sZN t.aZN t.dZN
 bZN:Binds K t.dZN ["script","k"] []
 mZN:mg "_law_cell"=some (.ref t.aZN)
 fZO:Fun K "_law_mixed" "_law_mixed" sZO t.aZO t.dZO
 bZO:Binds K t.dZO ["cell","k"] []
 mZO:mg "_law_mixed"=some (.ref t.aZO)
 fZP:Fun K "_law_draws" "_law_draws" sZP t.aZP t.dZP
 bZP:Binds K t.dZP ["script","start","count","way"] []
 mZP:mg "_law_draws"=some (.ref t.aZP)
 fZQ:Fun K "_law_ties" "_law_ties" sZQ t.aZQ t.dZQ
 bZQ:Binds K t.dZQ ["draws","places","hang"] []
 mZQ:mg "_law_ties"=some (.ref t.aZQ)
 fZR:Fun K "_law_web" "_law_web" sZR t.aZR t.dZR
 bZR:Binds K t.dZR ["script","most","count"] []
 mZR:mg "_law_web"=some (.ref t.aZR)
 fZS:Fun K "_law_lengths" "_law_lengths" sZS t.aZS t.dZS
 bZS:Binds K t.dZS ["script","count"] []
 mZS:mg "_law_lengths"=some (.ref t.aZS)
 fZT:Fun K "_law_text" "_law_text" sZT t.aZT t.dZT
 bZT:Binds K t.dZT ["places","ties","lengths"] []
 mZT:mg "_law_text"=some (.ref t.aZT)
 fZU:Fun K "_law_put" "_law_put" sZU t.aZU t.dZU
 bZU:Binds K t.dZU ["tree","out","into"] []
 mZU:mg "_law_put"=some (.ref t.aZU)
 fZV:Fun K "_law_walk_good" "_law_walk_good" sZV t.aZV t.dZV
 bZV:Binds K t.dZV ["web","one","other"] []
 mZV:mg "_law_walk_good"=some (.ref t.aZV)
 fZW:Fun K "_law_partners_good" "_law_partners_good" sZW t.aZW t.dZW
 bZW:Binds K t.dZW ["web","one","other"] []
 mZW:mg "_law_partners_good"=some (.ref t.aZW)
 fZX:Fun K "law" "law" sZX t.aZX t.dZX
 bZX:Binds K t.dZX ["script"] []
 oo:mg "law"=some (.ref t.aZX)
 c_Web:mg "Web"=some (.ref t.A_Web)
 cl_Web:Cls K t.A_Web
 k_Web:Mk K t.A_Web t.aZ8
 n_Web_places:NoAttr K t.A_Web "places"
 n_Web_ties:NoAttr K t.A_Web "ties"
 c_Part:mg "Part"=some (.ref t.A_Part)
 cl_Part:Cls K t.A_Part
 k_Part:Mk K t.A_Part t.aZu
 n_Part_web:NoAttr K t.A_Part "web"
 n_Part_kept:NoAttr K t.A_Part "kept"
 n_Part_shut:NoAttr K t.A_Part "shut"
 n_Part_lead:NoAttr K t.A_Part "lead"
 n_Part_least:NoAttr K t.A_Part "least"
 n_Part_incoming:NoAttr K t.A_Part "incoming"
 n_Part_further:NoAttr K t.A_Part "further"
 g_MOST_PLACES:∃ tk,mg "MOST_PLACES"=some (.int 14 tk)
 g_MOST_TIES:∃ tk,mg "MOST_TIES"=some (.int 30 tk)
 g_FIGURES:∃ tk,mg "FIGURES"=some (.str "0123456789" tk)
 g_MOST_FIGURES:∃ tk,mg "MOST_FIGURES"=some (.int 60 tk)
 n_abs:mg "abs"=none
 n_any:mg "any"=none
 n_enumerate:mg "enumerate"=none
 n_int:mg "int"=none
 n_len:mg "len"=none
 n_list:mg "list"=none
 n_max:mg "max"=none
 n_min:mg "min"=none
 n_range:mg "range"=none
 n_reversed:mg "reversed"=none
 n_set:mg "set"=none
 n_sorted:mg "sorted"=none
 n_str:mg "str"=none
 n_sum:mg "sum"=none
 n_tuple:mg "tuple"=none
 n_zip:mg "zip"=none
end My
namespace My
open PySem L2 PyProof.Rows
set_option maxHeartbeats 4000000
section
variable{P:Program}{w:World}{K:Ad}{mg:Af}{base:Heap}{t:Adr}
def om(K:Ad):Sp:=λvs H Q _=>∃(a:Addr) (kd:Bool) (xs:List V) (L:Ab),vs=[.ref a]/\SqK kd K H a xs/\Bears (DX K H) xs L /\
 ((∀ l∈L,l.length=L.length)->Q .non H)/\(¬ (∀ l∈L,l.length=L.length)->False)
theorem Cu:FnScope ["table","row"] ["table"] (XD sZ0):=⟨rfl,rfl,rfl,by decide +kernel,rfl,by decide +kernel,by decide +kernel⟩
theorem oj (T:Txt K mg t):FnOk P w K mg base Xg 1 t.aZ0 t.dZ0 ["table"] (om K):=by
 refine T.fZ0.ok Cu (λvs H Q E h=>?_) (λXw A outer s H vs Q E hr h=>?_)
 .obtain⟨a,kd,xs,L,rfl,_⟩:=h;rfl
 .obtain⟨a,kd,xs,L,rfl,hS,hB,q,qe⟩:=h;refine⟨_,(XI (Vb YQ rfl (PX K (pv 0)) (Zc (i:=1) Cu.nd rfl (Or.inl rfl))
   (XI (WD (Zf Wo (Zg (Zl K) (by rfl) T.n_len Boot.«len» (XY (pv 1) XX)) (Zg (Zl K) (by rfl) T.n_len Boot.«len» (XY (pv 0) XX)) (Zt _))
   (XI ZV)
   Zn)))),?_⟩
  have Lq:=hB.1;refine⟨_,rfl,a,rfl,RN (K:=K) (k:=kd) (a:=a) (xs:=xs) (λi σ H2=>∃ v1,σ=[some (.ref a),v1]/\H2=H/\∀ l∈L.take i,l.length=L.length) ⟨none,rfl,rfl,λl h=>(by cases h)⟩ (λi σ H2 _ ⟨_,_,e,_⟩=>e ▸ hS) ?_ ?_⟩
  .rintro i v σ H2 hi ⟨v1,rfl,rfl,Wm⟩;obtain⟨l,hl,r,k,rfl,hr⟩:=hB.at hi;refine nm ?_;refine⟨_,rfl,r,_,rfl,hr.or,_,rfl,a,xs,rfl,hS.or,rfl,_,rfl,?_⟩;rw[XB,ZD];refine WX (λe=>?_) (λe=>?_)
   .refine⟨_,rfl,rfl,λm hm=>?_⟩;rw[YL,hl]at hm;rcases Xr.mp hm with h | h
    .exact Wm m h
    .have LS:m=l:=by simpa using h
     rw[LS];lia
   .exact qe λh=>e (by rw[h l (Xi hl),Lq])
  .rintro σ H2 ⟨v1,rfl,rfl,Wm⟩;rw[Lq,YA]at Wm;exact q Wm
def oh(K:Ad):Sp:=λvs H Q _=>∃(r p:Addr) (x y last:Int) (l q:Ac),vs=[.ref r,.ref p,.int last]/\SqL K H r (IL (x :: l))/\SqL K H p (IL (y :: q))/\l.length=q.length/\l.length<=1000/\last≠0/\last.natAbs<2 ^ 9000 /\
 (∀ z∈x :: l,z.natAbs<2 ^ 9000)/\(∀ z∈y :: q,z.natAbs<2 ^ 9000)/\∀(c:Addr) (H':Hp),Same H H'->H c=none->H' c=some (.lst (IL (Py y q last (x :: l))))->Q (.ref c) H'
theorem og:FnScope ["row","pivot","last"] ["row","pivot","last"] (XD sZ1):=⟨rfl,rfl,rfl,by decide +kernel,rfl,by decide +kernel,by decide +kernel⟩
theorem oe (T:Txt K mg t):FnOk P w K mg base Xg 1 t.aZ1 t.dZ1 ["row","pivot","last"] (oh K):=by
 refine T.fZ1.ok og (λvs H Q E h=>?_) (λXw A outer s H vs Q E hr h=>?_)
 .obtain⟨r,p,x,y,last,l,q,rfl,_⟩:=h;rfl
 .obtain⟨r,p,x,y,last,l,q',rfl,hR,hP,dc,hl,l0,l1,hx,hy,q⟩:=h;refine⟨_,(XI (Zj (Vt rfl (sc0:=XD sZ1) (N0:=["row","pivot","last"]) (N':=["own","other","pivot","row","last"]) (o:=2) (fr:=[1,0,2]) ⟨rfl,by decide +kernel,by decide +kernel,by decide +kernel,rfl,by decide +kernel⟩ (LH K rfl T.n_zip (XY (ZY (Vl K) (pv 0) (RR XN) Qj) (XY (ZY (Vl K) (pv 1) (RR XN) Qj) XX))) (Fe (OH (by decide) (OH (by decide) Ff))) (λ_ _ _ _=>(PV (n:=2) K rfl (Zv (Zc (i:=0) (show List.Nodup (["own","other","pivot","row","last"]:List Str) by decide +kernel) rfl (Or.inl rfl)) (Zv (Zc (i:=1) (show List.Nodup (["own","other","pivot","row","last"]:List Str) by decide +kernel) rfl (Or.inl rfl)) QY)))) (λ_ _ _ _=>ZU) (λ_ _ _ _=>(Zr rM (Zr VS (Zr rN (ZF (Zd K) (pv 2) XN (λ_ _=>rfl)) (pv 0)) (Zr rN (ZF (Zd K) (pv 3) XN (λ_ _=>rfl)) (pv 1))) (pv 4)))))),?_⟩;refine⟨_,rfl,_,rfl,r,_,rfl,hR,λp1 Vx=>?_⟩;rw[fR];have s1:=XZ (o:=.lst (IL l)) Vx
  refine⟨_,rfl,_,rfl,p,_,rfl,s1.seq hP,λp2 Wg=>?_⟩;rw[fR];have s2:=XZ (o:=.lst (IL q')) Wg
  have WR:=s1.trans s2;have h1:=s2 _ _ (XS (H:=H) (a:=p1) (o:=.lst (IL l)))
  have h2:(upd (upd H p1 (.lst (IL l))) p2 (.lst (IL q'))) p2=some (.lst (IL q')):=XS;generalize upd (upd H p1 (.lst (IL l))) p2 (.lst (IL q'))=H2 at *;refine⟨p1,p2,rfl,⟨_,_,SqL.of h1,SqL.of h2⟩,sj (K:=K) (a:=p1) (b:=p2) (xs:=IL l) (ys:=IL q') (λi zs H3=>Same H2 H3/\i<=l.length/\zs=IL ((Py y q' last (x :: l)).take i)) ⟨Same.refl _,Yk _,rfl⟩ (by rwa[XB,XB]) (Zh (by rw[XB];lia))
   (λi zs H3 hi ⟨e,VO,ez⟩=>⟨SqL.of (e _ _ h1),SqL.of (e _ _ h2),by rw[ez,XB,Yj];lia⟩) ?_ ?_⟩
  .rintro i u v zs H3 pt SG hu hv ⟨s3,Vh,rfl⟩ S Xq;obtain⟨own,rfl,ho⟩:=ZW hu;obtain⟨JL,rfl,ht⟩:=ZW hv;have Xf:=(Xm.mp ho).1
   have s4:=XZ (o:=.tup [.int own,.int JL]) SG;refine⟨pt,_,rfl,SqT.of XS,rfl,_,_,rfl,_,_,rfl,rfl,?_⟩;have Sg:=WR.trans (s3.trans s4)
   have a1:=hy y Yc;have a2:=hx own (Yf _ (Xi ho))
   have a3:=hx x Yc;have a4:=hy JL (Yf _ (Xi ht))
   refine⟨_,rfl,p,_,0,.int y,rfl,rfl,Sg.seq hP,ZB (n:=0) rfl rfl,_,rfl,_,_,rfl,rfl,⟨a1,a2⟩,_,rfl,r,_,0,.int x,rfl,rfl,Sg.seq hR,ZB (n:=0) rfl rfl,_,rfl,_,_,rfl,rfl,⟨a3,a4⟩,_,_,rfl,rfl,_,rfl,_,_,rfl,rfl,⟨l0,l1⟩,?_⟩;refine Xq _ _ ⟨s3.trans s4,Xf,?_⟩;have e:(Py y q' last (x :: l))[i]?=some ((y * own - x * JL).fdiv last):=by show(List.zipWith _ l q')[i]?=_;rw[Mv,ho,ht];rfl
   rw[YL,e];exact(ZK _ _).symm
  .rintro zs H3 ⟨s3,_,rfl⟩ c hc;rw[XB,YO (by rw[fS (by rw[Yt,dc])];lia)];exact q c _ (WR.trans (s3.trans (XZ hc))) ((WR.trans s3).free hc) XS
def n9(K:Ad):Sp:=λvs H Q _=>∃(a:Addr) (ys:List V) (R:Ab),vs=[.ref a]/\SqL K H a ys/\Bears (VR H) ys R/\(∀ l∈R,0<l.length) /\
 (∀ H':Hp,Same H H'->(∀ i,i<R.length->fnL R i 0=0)->Q .non H')/\(∀(t:Nat) (H':Hp),Same H H'->t<R.length->fnL R t 0≠0->Q (.int t) H')
theorem Je:FnScope ["rows","at","row"] ["rows"] (XD sZ2):=⟨rfl,rfl,rfl,by decide +kernel,rfl,by decide +kernel,by decide +kernel⟩
theorem n8 (T:Txt K mg t):FnOk P w K mg base Xg 1 t.aZ2 t.dZ2 ["rows"] (n9 K):=by
 refine T.fZ2.ok Je (λvs H Q E h=>?_) (λXw A outer s H vs Q E hr h=>?_)
 .obtain⟨a,ys,R,rfl,_⟩:=h;rfl
 .obtain⟨a,ys,R,rfl,hS,hB,hp,q0,q1⟩:=h;refine⟨_,(XO (Vb YQ rfl (RM K rfl T.n_enumerate (XY (pv 0) XX)) (PV (n:=2) K rfl (Zv (Zc (i:=1) Je.nd rfl (Or.inl rfl)) (Zv (Zc (i:=2) Je.nd rfl (Or.inl rfl)) QY)))
   (XI (WD (Zf Wo (ZF (Zd K) (pv 2) XN (λ_ _=>rfl)) XN (Zt _))
   (XI (Zj (pv 1)))
   Zn)))
   (XI (Zj NO))),?_⟩
  have MQ:=hB.1;refine⟨_,rfl,a,rfl,⟨_,hS⟩,gP (K:=K) (a:=a) (xs:=ys) (λi σ H2=>∃ v1 v2,σ=[some (.ref a),v1,v2]/\Same H H2/\∀ j,j<i->fnL R j 0=0) ⟨none,none,rfl,Same.refl _,λj h=>absurd h (Wq _)⟩ (λi σ H2 _ ⟨_,_,_,e,_⟩=>e.seq hS) ?_ ?_⟩
  .rintro i v σ H2 pt SG hi ⟨v1,v2,rfl,s2,hz⟩;obtain⟨l,hl,r,rfl,hr⟩:=hB.at hi;have Ha:=hp l (Xi hl)
   obtain⟨x,l',rfl⟩:∃ x l',l=x :: l':=by
    cases l with
    | nil=>exact absurd Ha (RZ 0)
    | cons x l'=>exact⟨x,l',rfl⟩
   have e0:fnL R i 0=x:=Oo hl rfl;have s3:=s2.trans (XZ (o:=.tup [.int i,.ref r]) SG)
   refine⟨pt,_,rfl,SqT.of XS,rfl,_,_,rfl,_,_,rfl,rfl,?_⟩;generalize upd H2 pt (.tup [.int i,.ref r])=H3 at *;refine⟨_,rfl,r,_,0,.int x,rfl,rfl,SqL.of (s3 _ _ hr),ZB (n:=0) rfl rfl,rfl,_,rfl,?_⟩;rw[ZD];refine WX (λe=>?_) (λe=>?_)
   .refine⟨_,_,rfl,s3,λj hj=>?_⟩;by_cases c:j=i
    .rw[c,e0,e]
    .exact hz j (by lia)
   .exact⟨_,rfl,q1 i H3 s3 (by have:=(Xm.mp hl).1;exact this) (by rwa[e0])⟩
  .rintro σ H2 ⟨v1,v2,rfl,s2,hz⟩;exact q0 H2 s2 λi hi=>hz i (by lia)
def n6(K:Ad):Sp:=λvs H Q _=>∃(a:Addr) (kd:Bool) (xs:List V) (L:Ab),vs=[.ref a]/\SqK kd K H a xs/\Bears (DX K H) xs L/\L.length<=16/\(∀ i j,i<L.length->j<L.length->(fnL L i j).natAbs<=2 ^ 400) /\
 ((∀ l∈L,l.length=L.length)->∀ H':Hp,Same H H'->Q (.int (det L.length (fnL L))) H')/\(¬ (∀ l∈L,l.length=L.length)->∀ H':Hp,Same H H'->False)
theorem Ct{s rest:TS}{D:Ends}{σ:L2.St}{H:Hp}(P:L2.St->Hp->Prop)(h1:∀ σ' H',P σ' H'->rest D σ' H')(h2:∀ K:L2.St->Hp->Prop,(∀ σ' H',P σ' H'->K σ' H')->s { D with nx:=K } σ H):UG s rest D σ H:=h2 _ h1
theorem Ut:FnScope ["table","rows","sign","last","at","pivot"] ["table"] (XD sZ3):=⟨rfl,rfl,rfl,by decide +kernel,rfl,by decide +kernel,by decide +kernel⟩
theorem n5 (T:Txt K mg t):FnOk P w K mg base Xg 2 t.aZ3 t.dZ3 ["table"] (n6 K):=by
 refine T.fZ3.ok Ut (λvs H Q E h=>?_) (λXw A outer s H vs Q E hr h=>?_)
 .obtain⟨a,kd,xs,L,rfl,_⟩:=h;rfl
 .obtain⟨a,kd,xs,L,rfl,hS,hB,Cs,c9,q,qe⟩:=h;refine⟨_,(XO (ZN (Xy (oj T) (hr.mono (by decide)) rfl T.mZ0 T.fZ0.kp T.bZ0 .nil Zu (XY (pv 0) XX)))
   (XO (OE (i:=1) rfl Ut.nd rfl rfl (sc0:=XD sZ3) (N0:=["table","rows","sign","last","at","pivot"]) (N':=["row"]) (o:=1) (fr:=[]) ⟨rfl,by decide +kernel,by decide +kernel,by decide +kernel,rfl,by decide +kernel⟩ (PX K (pv 0)) (Zp (by decide)) (λ_ _ _ _=>(Zc (i:=0) (show List.Nodup (["row"]:List Str) by decide +kernel) rfl (Or.inl rfl))) (λ_ _ _ _=>ZU) (λ_ _ _ _=>(Zm (Hy K) (by rfl) T.n_list Boot.«list» (XY (pv 0) XX))))
   (XO (Zi (i:=2) Ut.nd rfl (Or.inl rfl) XN)
   (XO (Zi (i:=3) Ut.nd rfl (Or.inr rfl) XN)
   (XO (Ga YQ (Zf UC (Zg (Zl K) (by rfl) T.n_len Boot.«len» (XY (pv 1) XX)) XN (Zt _))
   (XO (Zi (i:=4) Ut.nd rfl (Or.inl rfl) (Xy (n8 T) (hr.mono (by decide)) rfl T.mZ2 T.fZ2.kp T.bZ2 .nil Zu (XY (pv 1) XX)))
   (XO (WD (Zf Mb (pv 4) NO (Zt _))
   (XI (Zj XN))
   Zn)
   (XO (WD (Zf VD (Zr ZO (pv 4) XN) XN (Zt _))
   (XI (Zi (i:=2) Ut.nd rfl (Or.inl rfl) (FV FR (pv 2))))
   Zn)
   (XO (Zi (i:=5) Ut.nd rfl (Or.inr rfl) (Ui K YW PySem.F.slot_list_pop PySem.F.type_list_pop vc (pv 1) (XY (pv 4) XX)))
   (XO (OE (i:=1) rfl Ut.nd rfl rfl (sc0:=XD sZ3) (N0:=["table","rows","sign","last","at","pivot"]) (N':=["row","pivot","last"]) (o:=1) (fr:=[5,3]) ⟨rfl,by decide +kernel,by decide +kernel,by decide +kernel,rfl,by decide +kernel⟩ (ZI K (pv 1)) (Zp (by decide)) (λ_ _ _ _=>(Zc (i:=0) (show List.Nodup (["row","pivot","last"]:List Str) by decide +kernel) rfl (Or.inl rfl))) (λ_ _ _ _=>ZU) (λ_ _ _ _=>(Xy (oe T) (hr.mono (by decide)) rfl T.mZ1 T.fZ1.kp T.bZ1 .nil Zu (XY (pv 0) (XY (pv 1) (XY (pv 2) XX))))))
   (XI (Zi (i:=3) Ut.nd rfl (Or.inr rfl) (ZF (Zd K) (pv 5) XN (λ_ _=>rfl))))))))))
   (XI (Zj (Zr rN (pv 2) (pv 3))))))))),?_⟩
  have Lq:=hB.1;refine⟨_,rfl,a,kd,xs,L,rfl,hS,hB,λn4=>?_,λh=>qe h H (Same.refl H)⟩;have q:=q n4
  obtain⟨n,hn⟩:∃ n,n=L.length:=⟨_,rfl⟩;rw[<- hn]at q n4 c9 Cs;refine⟨_,rfl,a,rfl,ET (K:=K) (k:=kd) (a:=a) (xs:=xs) (λi zs H2=>Same H H2/\i<=xs.length/\Bears (VR H2) zs (L.take i)) ⟨Same.refl _,Yk _,⟨rfl,λi l e=>by simp at e⟩⟩ (Zh (by lia)) (λi zs H2 hi ⟨e,VO,ez⟩=>⟨hS.same e,by rw[ez.1,Yj];lia⟩) ?_ ?_⟩
  .rintro i v zs H2 hi ⟨s2,Vh,hZ⟩ S Xq;obtain⟨l,hl,r,k,rfl,hr⟩:=hB.at hi;have Xf:=(Xm.mp hi).1
   refine nm ?_;refine⟨_,rfl,r,_,rfl,(hr.same s2).or,λc hc=>Xq _ _ ⟨s2.trans (XZ hc),Xf,?_⟩⟩;rw[YL,hl];refine(hZ.imp λ_ _ ⟨r',e,h⟩=>⟨r',e,XZ hc _ _ h⟩).snoc ⟨c,rfl,XS⟩
  rintro zs H2 ⟨s2,_,hZ⟩ rA SF;rw[Lq,YA]at hZ;have s3:=s2.trans (XZ (o:=.lst zs) SF)
  refine⟨λm σ H4=>∃(A:Mx) (k:Nat) (rA:Addr) (ys:List V) (R:Ab) (sgn last:Int) (v4 v5:Option V),σ=[some (.ref a),some (.ref rA),some (.int sgn),some (.int last),v4,v5]/\Same H H4/\H rA=none/\H4 rA=some (.lst ys)/\Bears (LiV rA H4) ys R/\R.length=m/\(∀ l∈R,l.length=m)/\k+m=n/\Sn A k m (fnL R) last/\det n (fnL L)=sgn * det n A/\(∀ i j,i<n->j<n->(A i j).natAbs<=2 ^ 400)/\(m=0->last=det n A)/\(sgn=1\/sgn=-1)/\last.natAbs<2 ^ 9000,⟨n,fnL L,0,rA,zs,L,1,1,none,none,rfl,s3,s2.free SF,XS,?_,hn.symm,n4,by lia,ZM8 _ _,by grind,c9,λe=>by rw[e];rfl,.inl rfl,Nat.one_lt_two_pow (by decide)⟩,?_⟩
  .exact hZ.imp λv l ⟨r,e,h⟩=>⟨r,e,XZ SF _ _ h,Zb h SF⟩
  rintro m σ H4 ⟨A,k,rA,ys,R,sgn,last,v4,v5,rfl,s4,Vf,Lp,hR,c8,Pj,yy,MP,Jd,c7,nZ,c6,c5⟩;have MQ:=hR.1
  refine⟨_,rfl,rA,ys,rfl,.inl (SqL.of Lp),_,_,rfl,rfl,_,rfl,?_⟩;refine Xc (λJc=>?_) (λJc=>?_)
  .obtain⟨M,rfl⟩:∃ M,m=M+1:=⟨m - 1,by lia⟩;refine⟨_,λσ' H' h=>⟨M,OP M,h⟩,?_⟩;have nY:∀ l∈R,∀ z∈l,z.natAbs<2 ^ 9000:=λl hl z hz=>by
    obtain⟨i,hi⟩:=QG hl;obtain⟨j,hj⟩:=QG hz;have h1:=(Xm.mp hi).1
    have h2:=(Xm.mp hj).1;have h3:=Pj l hl
    have:=ZN8 MP yy Cs c7 (i:=i) (j:=j) (by lia) (by lia)
    rwa[Oo hi hj]at this
   refine⟨_,rfl,rA,ys,R,rfl,SqL.of Lp,hR.imp λ_ _ h=>h.list,λl hl=>by rw[Pj l hl];lia,λH5 s5 h0=>?_,λt H5 s5 ht XH=>?_⟩
   .refine⟨_,rfl,rfl,_,rfl,?_⟩;refine zL (c:=V.non=V.non) rfl ?_;have z:det n A=0:=by
     have:=rQ MP λi hi=>h0 i (by lia)
     rwa[show k+M+1=n by lia]at this
    rw[Jd,z,Sy]at q;exact q H5 (s4.trans s5)
   refine⟨_,rfl,rfl,_,rfl,?_⟩;refine SQ (c:=V.int (t:Int)=V.non) (λz=>nomatch z) ?_;refine nm ?_;dsimp only;refine Ct (λσ H6=>∃ MO:Int,H6=H5/\σ=[some (.ref a),some (.ref rA),some (.int MO),some (.int last),some (.int t),v5]/\MO=sgn * sg t) ?_ ?_
   .rintro σ H6 ⟨MO,rfl,rfl,Cr⟩;have GZ:=s5 _ _ Lp
    have cZ:=hR.imp λ_ _ h=>h.same s5;obtain⟨l,hl⟩:∃ l,R[t]?=some l:=⟨_,Xu ht⟩;have Vd:=Pj l (Xi hl)
    obtain⟨y,p',rfl⟩:∃ y p',l=y :: p':=by
     cases l with
     | nil=>cases Vd
     | cons y p'=>exact⟨y,p',rfl⟩
    have UQ:p'.length=M:=by rw[Yt]at Vd;lia
    obtain⟨v,hv,pA,rfl,nX,hpn⟩:=cZ.2 t _ hl;have nW:y≠0:=by rwa[Oo hl rfl]at XH
    refine⟨_,rfl,.inl ⟨rfl,_,SqL.of GZ⟩,_,rfl,rA,ys,(t:Int),t,.ref pA,rfl,rfl,GZ,by lia,by lia,by rw[tf (by lia) (by lia),YH],hv,?_⟩;have Cq:(upd H6 rA (.lst (ys.eraseIdx t))) pA=some (.lst (IL (y :: p'))):=by rwa[Za hpn]
    have s7:Same H (upd H6 rA (.lst (ys.eraseIdx t))):=ZA Vf (s4.trans s5);have cY:Bears (LiV rA (upd H6 rA (.lst (ys.eraseIdx t)))) (ys.eraseIdx t) (R.eraseIdx t):=(cZ.erase t).imp λ_ _ h=>h.mut
    have Cp:(upd H6 rA (.lst (ys.eraseIdx t))) rA=some (.lst (ys.eraseIdx t)):=XS;generalize upd H6 rA (.lst (ys.eraseIdx t))=H7 at *;have cX:(R.eraseIdx t).length=M:=by rw[xH,if_pos ht];lia
    have Jb:∀ l∈R.eraseIdx t,l.length=M+1:=λl h=>Pj l (jd h);have hy7:=cY.1
    refine⟨_,rfl,rA,rfl,⟨_,SqL.of Cp⟩,Sr (K:=K) (a:=rA) (xs:=ys.eraseIdx t) (λi zs H8=>Same H7 H8/\i<=(ys.eraseIdx t).length/\Bears (VR H8) zs (((R.eraseIdx t).take i).map (Py y p' last))) ⟨Same.refl _,Yk _,⟨rfl,λi l e=>by simp at e⟩⟩ (Zh (by lia)) (λi zs H8 hi ⟨e,VO,ez⟩=>⟨SqL.of (e _ _ Cp),by rw[ez.1,Ya,Yj];lia⟩) ?_ ?_⟩
    .rintro i v zs H8 hi ⟨s8,Vh,yx⟩ S Xq;obtain⟨l,LF,r,rfl,hr,_⟩:=cY.at hi;have Xf:=(Xm.mp hi).1
     have Su:=Jb l (Xi LF);obtain⟨x,l',rfl⟩:∃ x l',l=x :: l':=by
      cases l with
      | nil=>cases Su
      | cons x l'=>exact⟨x,l',rfl⟩
     have Qu:l'.length=M:=by rw[Yt]at Su;lia
     refine nm ?_;refine⟨_,rfl,_,rfl,_,rfl,r,pA,x,y,last,l',p',rfl,SqL.of (s8 _ _ hr),SqL.of (s8 _ _ Cq),by lia,by lia,MP.1,c5,nY _ (jd (Xi LF)),nY _ (Xi hl),λc H9 s9 QM hc=>Xq _ _ ⟨s8.trans s9,Xf,?_⟩⟩;rw[YL,LF,YJ];exact(yx.imp λ_ _ ⟨r',e,h⟩=>⟨r',e,s9 _ _ h⟩).snoc ⟨c,rfl,hc⟩
    rintro zs H8 ⟨s8,_,yx⟩ cA Co;rw[hy7,YA]at yx;have s9:=XZ (o:=.lst zs) Co
    refine⟨_,rfl,pA,_,0,.int y,rfl,rfl,SqL.of (s9 _ _ (s8 _ _ Cq)),ZB (n:=0) rfl rfl,?_⟩;have Jx:Sn (λi=>A (rotN k t i)) k (M+1) (fnL ((y :: p') :: R.eraseIdx t)) last:=by rw[rK hl];exact Eb MP (by lia)
    have QO:Sn (λi=>A (rotN k t i)) (k+1) M (fnL ((R.eraseIdx t).map (Py y p' last))) y:=rS Jx nW λi j hi hj=>rJ UQ cX Jb hi hj;have hdr:=rX (n:=n) (k:=k) (t:=t) (A:=A) (by lia)
    refine⟨λi=>A (rotN k t i),k+1,cA,zs,(R.eraseIdx t).map (Py y p' last),MO,y,_,_,rfl,s7.trans (s8.trans s9),(s7.trans s8).free Co,XS,?_,by rw[Ya];exact cX,λl h=>?_,by lia,QO,?_,λi j hi hj=>c7 _ _ ?_ hj,λe0=>?_,?_,nY _ (Xi hl) y Yc⟩
    .exact yx.imp λv l ⟨r,e,h⟩=>⟨r,e,s9 _ _ h,Zb h Co⟩
    .obtain⟨l0,h0,rfl⟩:=YD.mp h;rw[fS (by rw[Jb l0 h0,UQ]),UQ]
    .rw[hdr,Jd,Cr,Sz,<- Sz (sg t),rH,Tc]
    .unfold rotN;split
     .grind
     .split
      .lia
      .split <;> lia
    .subst e0
     have:=Ea Jx
     rwa[show k+1=n by lia]at this
    .rw[Cr];have VE:sg t=1\/sg t=-1:=by
      unfold sg;split
      .exact .inl rfl
      .exact .inr rfl
     rcases c6 with e | e <;> rcases VE with f | f <;> rw[e,f]
     .exact .inl rfl
     .exact .inr rfl
     .exact .inr rfl
     .exact .inl rfl
   .intro Kn hK;refine⟨_,rfl,_,_,rfl,rfl,(by show(0:Int)<2;decide),rfl,_,rfl,?_⟩;rw[ZD];refine Xc (λh1=>?_) (λh1=>?_)
    .refine⟨_,rfl,_,rfl,hK _ _ ⟨-sgn,rfl,rfl,?_⟩⟩;have e:sg t=-1:=by unfold sg;rw[if_neg (by lia)]
     rw[e];lia
    .refine hK _ _ ⟨sgn,rfl,rfl,?_⟩;have e:sg t=1:=by unfold sg;rw[if_pos (by lia)]
     rw[e];grind
  .have QL:m=0:=by lia
   refine⟨_,rfl,_,rfl,_,_,rfl,rfl,⟨?_,c5⟩,?_⟩
   .rcases c6 with e | e <;> rw[e] <;> exact Nat.one_lt_two_pow (by decide)
   .rw[nZ QL]at *;rw[Jd]at q;exact q H4 s4
def nV(K:Ad):Sp:=λvs H Q _=>∃(a:Addr) (l:Ac) (i:Nat),vs=[.ref a,.int i]/\SqL K H a (IL l)/\l.length<=1000/\∀(r:Addr) (H':Hp),Same H H'->H r=none->H' r=some (.lst (IL (cutz l i)))->Q (.ref r) H'
theorem nU(l:Ac)(z:Int):cutz (IL l) z=IL (cutz l z):=by
 unfold cutz;show(l.map V.int).take _++(l.map V.int).drop _=(l.take _++l.drop _).map V.int
 rw[YJ,List.map_take,List.map_drop]
theorem nS:FnScope ["row","number"] ["row","number"] (XD sZ4):=⟨rfl,rfl,rfl,by decide +kernel,rfl,by decide +kernel,by decide +kernel⟩
theorem nR (T:Txt K mg t):FnOk P w K mg base Xg 1 t.aZ4 t.dZ4 ["row","number"] (nV K):=by
 refine T.fZ4.ok nS (λvs H Q E h=>?_) (λXw A outer s H vs Q E hr h=>?_)
 .obtain⟨a,l,i,rfl,_⟩:=h;rfl
 .obtain⟨a,l,i,rfl,hA,hl,q⟩:=h;refine⟨_,(XI (Zj (Zr Fo (Zm (Hy K) (by rfl) T.n_list Boot.«list» (XY (ZY (Vl K) (pv 0) Qj (RR (pv 1))) XX)) (Zm (Hy K) (by rfl) T.n_list Boot.«list» (XY (ZY (Vl K) (pv 0) (RR (Zr Uo (pv 1) XN)) Qj) XX))))),?_⟩;refine⟨_,rfl,_,rfl,(i:Int),rfl,a,_,rfl,hA,λp1 Vx=>?_⟩;have u1:=XZ (o:=.lst (Xh (IL l) none (some (i:Int)))) Vx
  refine⟨p1,_,rfl,.inl (SqL.of XS),λp2 Wg=>?_⟩;have u2:=XZ (o:=.lst (Xh (IL l) none (some (i:Int)))) Wg
  refine⟨_,rfl,_,rfl,_,_,rfl,rfl,_,rfl,a,_,rfl,(u1.trans u2).seq hA,λp3 Si=>?_⟩;have u3:=XZ (o:=.lst (Xh (IL l) (some ((i:Int)+1)) none)) Si
  refine⟨p3,_,rfl,.inl (SqL.of XS),λp4 Ue=>?_⟩;have u4:=XZ (o:=.lst (Xh (IL l) (some ((i:Int)+1)) none)) Ue
  have c1:=vy (IL l) none (some (i:Int));have c2:=vy (IL l) (some ((i:Int)+1)) none
  rw[XB]at c1 c2;refine⟨p2,p4,_,_,rfl,rfl,(u3.trans u4) _ _ XS,XS,OA (by lia),λp5 yw=>?_⟩;have cW:=u1.trans (u2.trans (u3.trans u4))
  refine q p5 _ (cW.trans (XZ yw)) (cW.free yw) ?_;rw[XS,sO (by lia),nU]
def nQ(K:Ad):Sp:=λvs H Q _=>∃(a:Addr) (ys:List V) (L:Ab) (i:Nat),vs=[.ref a,.int i]/\SqL K H a ys/\Bears (VR H) ys L/\L.length<=1000/\(∀ l∈L,l.length<=1000)/\i<L.length /\
 ∀(r:Addr) (zs:List V) (H':Hp),Same H H'->H' r=some (.lst zs)->Bears (VR H') zs ((cutz L i).map λl=>cutz l (i:Int))->Q (.ref r) H'
theorem cV{α:Type}{l:List α}{i j:Nat}{x:α}(hx:l[j]?=some x):cutz (l.take (j+1)) (i:Int)=cutz (l.take j) (i:Int)++(if j=i then [] else [x]):=by
 have hj:=(Xm.mp hx).1;have e:l.take (j+1)=l.take j++[x]:=by rw[YL,hx];rfl
 have hl:(l.take j).length=j:=by rw[Yj];grind
 have short:∀ m:List α,m.length<=i->cutz m (i:Int)=m:=λm hm=>by unfold cutz;rw[YH,YO hm,Ii (by lia),YE]
 rw[e];by_cases c:j=i
 .subst c;rw[if_pos rfl,YE,short (l.take j) (by lia)];unfold cutz;rw[YH,GO (by lia),Ii (by rw[Xv,hl];exact XJ _),YE,YO (by lia)]
 .rw[if_neg c];by_cases d:j<i
  .rw[short (l.take j++[x]) (by rwa[Xv,hl]),short (l.take j) (by lia)]
  .unfold cutz;rw[YH,GO (by grind),xT (by lia),Rc]
theorem nP:FnScope ["table","number"] ["table","number"] (XD sZ5):=⟨rfl,rfl,rfl,by decide +kernel,rfl,by decide +kernel,by decide +kernel⟩
theorem nO (T:Txt K mg t):FnOk P w K mg base Xg 2 t.aZ5 t.dZ5 ["table","number"] (nQ K):=by
 refine T.fZ5.ok nP (λvs H Q E h=>?_) (λXw A outer s H vs Q E hr h=>?_)
 .obtain⟨a,ys,L,i,rfl,_⟩:=h;rfl
 .obtain⟨a,ys,L,i,rfl,hA,hB,hL,cU,hi,q⟩:=h;refine⟨_,(XI (Zj (Vt rfl (sc0:=XD sZ5) (N0:=["table","number"]) (N':=["at","row","number"]) (o:=2) (fr:=[1]) ⟨rfl,by decide +kernel,by decide +kernel,by decide +kernel,rfl,by decide +kernel⟩ (RM K rfl T.n_enumerate (XY (pv 0) XX)) (Fe (OH (by decide) (OH (by decide) Ff))) (λ_ _ _ _=>(PV (n:=2) K rfl (Zv (Zc (i:=0) (show List.Nodup (["at","row","number"]:List Str) by decide +kernel) rfl (Or.inl rfl)) (Zv (Zc (i:=1) (show List.Nodup (["at","row","number"]:List Str) by decide +kernel) rfl (Or.inl rfl)) QY)))) (λ_ _ _ _=>(Wl (Zf Wo (pv 0) (pv 2) (Zt _)))) (λ_ _ _ _=>(Xy (nR T) (hr.mono (by decide)) rfl T.mZ4 T.fZ4.kp T.bZ4 .nil Zu (XY (pv 1) (XY (pv 2) XX))))))),?_⟩;have MQ:=hB.1
  refine⟨_,rfl,a,rfl,⟨_,hA⟩,Np (K:=K) (a:=a) (xs:=ys) (λj zs H2=>Same H H2/\j<=ys.length/\Bears (VR H2) zs ((cutz (L.take j) (i:Int)).map λl=>cutz l (i:Int))) ⟨Same.refl _,Yk _,by rw[show(cutz (L.take 0) (i:Int)).map (λl=>cutz l (i:Int))=[] by unfold cutz;simp];exact⟨rfl,λi l e=>by simp at e⟩⟩ (Zh (by lia)) (λj zs H2 hj ⟨e,SK,ez⟩=>⟨e.seq hA,by
   rw[ez.1,Ya];refine Yv (sN _ _) ?_;rw[Yj]
   lia⟩) ?_ ?_⟩
  .rintro j v zs H2 pt SG hj ⟨s2,Ow,hZ⟩ S Xq;obtain⟨l,hl,r,rfl,hr⟩:=hB.at hj;have WT:=(Xm.mp hj).1
   have s3:=XZ (o:=.tup [.int j,.ref r]) SG;refine⟨pt,_,rfl,SqT.of XS,rfl,_,_,rfl,_,_,rfl,rfl,?_⟩;have cT:Bears (VR (upd H2 pt (.tup [.int j,.ref r]))) zs ((cutz (L.take j) (i:Int)).map λl=>cutz l (i:Int)):=hZ.imp λ_ _ ⟨r',e,h⟩=>⟨r',e,s3 _ _ h⟩
   have nN:=s2.trans s3;generalize upd H2 pt (.tup [.int j,.ref r])=H3 at *;refine⟨_,rfl,_,rfl,rfl,_,rfl,?_⟩;rw[ZD];refine WX (λe=>?_) (λe=>?_)
   .refine Xq _ _ ⟨nN,WT,?_⟩;rwa[cV hl,if_pos (by lia),YE]
   .refine⟨_,rfl,_,rfl,r,l,i,rfl,SqL.of (nN _ _ hr),cU l (Xi hl),λc H4 s4 _ hc=>Xq _ _ ⟨nN.trans s4,WT,?_⟩⟩;rw[cV hl,if_neg (by lia),YJ];exact(cT.imp λ_ _ ⟨r',e,h⟩=>⟨r',e,s4 _ _ h⟩).snoc ⟨c,rfl,hc⟩
  .rintro zs H2 ⟨s2,_,hZ⟩ p hp;rw[MQ,YA]at hZ;exact q p zs _ (s2.trans (XZ hp)) XS (hZ.imp λ_ _ ⟨r',e,h⟩=>⟨r',e,XZ hp _ _ h⟩)
def nM(C:Addr):Sp:=λvs H Q _=>∃(w:Addr) (n:Int) (ps:Aa) (k:Int),vs=[.ref w,.int k]/\WebAt C H w n ps/\Q (.bl (decide (0<=k/\k<(ps.length:Int)))) H
theorem nL:FnScope ["web","number"] ["web","number"] (XD sZ6):=⟨rfl,rfl,rfl,by decide +kernel,rfl,by decide +kernel,by decide +kernel⟩
theorem Cn (T:Txt K mg t):FnOk P w K mg base Xg 1 t.aZ6 t.dZ6 ["web","number"] (nM t.A_Web):=by
 refine T.fZ6.ok nL (λvs H Q E h=>?_) (λXw A outer s H vs Q E hr h=>?_)
 .obtain⟨w,n,ps,k,rfl,_⟩:=h;rfl
 .obtain⟨w,n,ps,k,rfl,⟨dx,tl,xs,h1,h2,h3⟩,q⟩:=h;refine⟨_,(XI (Zj (vT Ua SW XN (pv 1) (Zg (Zl K) (by rfl) T.n_len Boot.«len» (XY (Zo K (pv 0) rfl) XX))))),?_⟩;refine⟨_,rfl,_,_,rfl,rfl,_,rfl,?_⟩;refine Fi (λhc=>?_) (λhc=>?_)
  .refine⟨_,rfl,w,_,dx,_,_,rfl,h1,T.cl_Web,T.n_Web_ties,Oz _ _,tl,xs,rfl,.inl (SqL.of h2),_,_,rfl,rfl,?_⟩;have hc:=Yo hc
   show Q (.bl (decide (k<(xs.length:Int)))) H;rwa[h3.1,show decide (k<(ps.length:Int))=decide (0<=k/\k<(ps.length:Int)) from by simp[hc]]
  .have hc:¬ (0<=k):=λz=>hc (Yr z);show Q (.bl false) H
   rwa[show(false:Bool)=decide (0<=k/\k<(ps.length:Int)) from by simp;lia]
def nK(K:Ad):Sp:=λvs H Q _=>∃(n:Int) (a:Addr) (kd:Bool) (xs:List V) (ps:Aa),vs=[.int n,.ref a]/\SqK kd K H a xs/\PairsV H xs ps/\Zz n ps/\Q .non H
theorem Ja:FnScope ["places","ties","ends","end"] ["places","ties"] (XD sZ7):=⟨rfl,rfl,rfl,by decide +kernel,rfl,by decide +kernel,by decide +kernel⟩
theorem nJ (T:Txt K mg t):FnOk P w K mg base Xg 1 t.aZ7 t.dZ7 ["places","ties"] (nK K):=by
 refine T.fZ7.ok Ja (λvs H Q E h=>?_) (λXw A outer s H vs Q E hr h=>?_)
 .obtain⟨n,a,kd,xs,ps,rfl,_⟩:=h;rfl
 .obtain⟨n,a,kd,xs,ps,rfl,hS,hp,⟨g1,g2,g3,g4⟩,q⟩:=h;refine⟨_,(XO (WD (OM (vS Ua Ua XN (pv 0) (z4 (v:=V.int 14) rfl T.g_MOST_PLACES.choose_spec ⟨_,rfl⟩)))
   (XI ZV)
   Zn)
   (XO (WD (Zf UC (Zg (Zl K) (by rfl) T.n_len Boot.«len» (XY (pv 1) XX)) (z4 (v:=V.int 30) rfl T.g_MOST_TIES.choose_spec ⟨_,rfl⟩) (Zt _))
   (XI ZV)
   Zn)
   (XI (Vb YQ rfl (PX K (pv 1)) (Zc (i:=2) Ja.nd rfl (Or.inl rfl))
   (XI (Vb YQ rfl (JQ K (pv 2)) (Zc (i:=3) Ja.nd rfl (Or.inl rfl))
   (XI (WD (OM (vS Ua SW XN (pv 3) (pv 0)))
   (XI ZV)
   Zn)))))))),?_⟩
  refine⟨_,rfl,_,_,rfl,rfl,_,rfl,?_⟩;refine zL g1 ?_;refine⟨_,_,rfl,rfl,_,rfl,?_⟩;refine PY g2 ?_;refine⟨_,rfl,a,xs,rfl,hS.or,_,_,rfl,rfl,_,rfl,?_⟩;refine SQ (by rw[hp.1];lia) ?_;refine⟨_,rfl,a,rfl,RN (k:=kd) (K:=K) (xs:=xs) (λi σ H2=>∃ v v2,σ=[some (.int n),some (.ref a),v,v2]/\H2=H) ⟨none,none,rfl,rfl⟩ (λi σ H2 _ ⟨_,_,_,e⟩=>e ▸ hS) ?_ ?_⟩
  .rintro i x σ H2 hi ⟨v,v2,rfl,rfl⟩;obtain⟨p,PR,tt,rfl,ht⟩:=hp.at hi;obtain⟨e1,e2,e3,e4⟩:=g4 p (Xi PR);refine⟨_,rfl,tt,rfl,⟨_,SqT.of ht⟩,iC (K:=K) (a:=tt) (xs:=[.int p.1,.int p.2]) (λj σ H3=>∃ v v2,σ=[some (.int n),some (.ref a),v,v2]/\H3=H2) ⟨_,_,rfl,rfl⟩ (λj σ H3 _ ⟨_,_,_,e⟩=>e ▸ SqT.of ht) ?_ ?_⟩
   .rintro j y σ H3 hj ⟨v,v2,rfl,rfl⟩;have hy:∃ z:Int,y=.int z/\0<=z/\z<n:=by
     match j,hj with
     | 0,hj=>exact⟨p.1,(Yi hj).symm,e1,e2⟩
     | 1,hj=>exact⟨p.2,(Yi hj).symm,e3,e4⟩
    obtain⟨z,rfl,z1,z2⟩:=hy;refine⟨_,rfl,_,_,rfl,rfl,_,rfl,?_⟩;refine zL z1 ?_;refine⟨_,rfl,_,_,rfl,rfl,_,rfl,?_⟩;refine PY z2 ?_;exact⟨_,_,rfl,rfl⟩
   .rintro σ H3 ⟨v,v2,rfl,rfl⟩;exact⟨_,_,rfl,rfl⟩
  .rintro σ H2 ⟨v,v2,rfl,rfl⟩;exact q
def ZF5(K:Ad)(C:Addr):Sp:=λvs H Q _=>∃(w dx:Addr) (n:Int) (a:Addr) (kd:Bool) (xs:List V) (ps:Aa),vs=[.ref w,.int n,.ref a]/\H w=some (.ins C dx [])/\(∀ o,SqK kd K (upd H w o) a xs)/\PairsV H xs ps/\Zz n ps /\
 ∀ H':Hp,WebAt C H' w n ps->(∀ b o,H b=some o->b≠w->H' b=some o)->Q .non H'
theorem nI:FnScope ["self","places","ties"] ["self","places","ties"] (XD sZ8):=⟨rfl,rfl,rfl,by decide +kernel,rfl,by decide +kernel,by decide +kernel⟩
theorem Cm (T:Txt K mg t):FnOk P w K mg base Xg 2 t.aZ8 t.dZ8 ["self","places","ties"] (ZF5 K t.A_Web):=by
 refine T.fZ8.ok nI (λvs H Q E h=>?_) (λXw A outer s H vs Q E hr h=>?_)
 .obtain⟨w,dx,n,a,kd,xs,ps,rfl,_⟩:=h;rfl
 .obtain⟨w,dx,n,a,kd,xs,ps,rfl,hw,hS,hp,g,q⟩:=h;have eH:upd H w (.ins t.A_Web dx [])=H:=by
   funext b
   by_cases hb:b=w
   .subst hb;rw[XS,hw]
   .rw[Za hb]
  have Hv:SqK kd K H a xs:=by have z:=hS (.ins t.A_Web dx []);rwa[eH]at z
  refine⟨_,(XO (ZN (Xy (nJ T) (hr.mono (by decide)) rfl T.mZ7 T.fZ7.kp T.bZ7 .nil Zu (XY (pv 1) (XY (pv 2) XX))))
   (XO (NF (pv 0) (pv 1) rfl)
   (XI (NF (pv 0) (Vt rfl (sc0:=XD sZ8) (N0:=["self","places","ties"]) (N':=["ends"]) (o:=1) (fr:=[]) ⟨rfl,by decide +kernel,by decide +kernel,by decide +kernel,rfl,by decide +kernel⟩ (PX K (pv 2)) (Zp (by decide)) (λ_ _ _ _=>(Zc (i:=0) (show List.Nodup (["ends"]:List Str) by decide +kernel) rfl (Or.inl rfl))) (λ_ _ _ _=>ZU) (λ_ _ _ _=>(UB (XY (ZF (ZJ K) (pv 0) XN (λ_ _=>rfl)) (XY (ZF (ZJ K) (pv 0) XN (λ_ _=>rfl)) XX))))) rfl)))),?_⟩
  refine⟨_,rfl,_,rfl,n,a,kd,xs,ps,rfl,Hv,hp,g,?_⟩;refine⟨_,rfl,_,rfl,w,_,dx,[],rfl,hw,T.cl_Web,T.n_Web_places,(by show 0<1000;decide),?_⟩;have Vx:PairsV (upd H w (.ins t.A_Web dx (XM "places" (.int n) []))) xs ps:=⟨hp.1,λi p e=>by obtain⟨v,e1,tt,e2,e3⟩:=hp.2 i p e;exact⟨v,e1,tt,e2,by rwa[Za (VG e3 hw (λz=>nomatch z))]⟩⟩
  have sx:xs.length<sizeLine:=Zh (by rw[hp.1];have:=g.2.2.1;lia);refine⟨_,rfl,a,rfl,ET (k:=kd) (K:=K) (xs:=xs) (λi ys H2=>i<=xs.length/\ys.length=i/\Same (upd H w (.ins t.A_Web dx (XM "places" (.int n) []))) H2/\PairsV H2 ys (ps.take i)) ⟨Yk _,rfl,Same.refl _,PairsV.nil⟩ sx
   (λi ys H2 _ ⟨_,hl,s2,_⟩=>⟨(hS _).same s2,Nat.le_of_eq hl⟩) ?_ ?_⟩
  .rintro i x ys H2 hi ⟨h1,hl,s2,hy⟩ S Xq;obtain⟨p,PR,tt,rfl,ht⟩:=Vx.at hi;have IZ:=s2 _ _ ht
   refine Oy ?_;refine⟨_,rfl,tt,_,0,.int p.1,rfl,rfl,SqT.of IZ,rfl,_,rfl,tt,_,1,.int p.2,rfl,rfl,SqT.of IZ,rfl,(by show 2<=sizeLine;decide),λq hq=>?_⟩;have Vh:i<xs.length:=(Xm.mp hi).1
   refine Xq _ _ ⟨Vh,by rw[Xv,hl];rfl,Zs s2 hq,?_⟩;rw[YL,PR];exact(hy.same (XZ hq)).snoc ⟨q,rfl,XS⟩
  .rintro ys H2 ⟨_,hl,s2,hy⟩ tl nH;have GY:=s2 w _ XS
   have cS:w≠tl:=Zb GY nH;refine⟨_,rfl,w,_,dx,_,rfl,(by rwa[Za cS]),T.cl_Web,T.n_Web_ties,(by show 1<1000;decide),?_⟩;refine q _ ⟨dx,tl,ys,XS,by rw[Za (XG cS),XS],?_⟩ λb ob e hb=>?_
   .have e1:ps.take xs.length=ps:=YO (by rw[hp.1];exact XJ _);rw[e1]at hy;refine⟨hy.1,λi p e=>?_⟩;obtain⟨v,e2,tt,e3,e4⟩:=hy.2 i p e;exact⟨v,e2,tt,e3,by rwa[Za (VG e4 GY (λz=>nomatch z)),Za (Zb e4 nH)]⟩
   .have e2:=s2 b ob (by rwa[Za hb]);rwa[Za hb,Za (Zb e2 nH)]
def nG(K:Ad)(C:Addr):Sp:=λvs H Q _=>∃(w a:Addr) (n:Int) (ps:Aa) (kd:Bool) (T:Ac),vs=[.ref w,.ref a]/\WebAt C H w n ps/\ps.length<=1000/\SqK kd K H a (IL T) /\
 ∀(D:Ac),D.Pairwise (· < ·)->(∀ z,z∈D↔(0<=z/\z<(ps.length:Int))/\z∉T)->∀(r:Addr) (H':Hp),Same H H'->H' r=some (.tup (IL D))->Q (.ref r) H'
theorem nF:FnScope ["web","ties"] ["web","ties"] (XD sZ9):=⟨rfl,rfl,rfl,by decide +kernel,rfl,by decide +kernel,by decide +kernel⟩
theorem nE (T:Txt K mg t):FnOk P w K mg base Xg 1 t.aZ9 t.dZ9 ["web","ties"] (nG K t.A_Web):=by
 refine T.fZ9.ok nF (λvs H Q E h=>?_) (λXw A outer s H vs Q E hr h=>?_)
 .obtain⟨w,a,n,ps,kd,T,rfl,_⟩:=h;rfl
 .obtain⟨w,a,n,ps,kd,T',rfl,hW,hl,hA,q⟩:=h;refine⟨_,(XI (Zj (Zm (ZG K) (by rfl) T.n_tuple Boot.«tuple» (XY (Vt rfl (sc0:=XD sZ9) (N0:=["web","ties"]) (N':=["tie","ties"]) (o:=1) (fr:=[1]) ⟨rfl,by decide +kernel,by decide +kernel,by decide +kernel,rfl,by decide +kernel⟩ (UD rfl T.n_range (XY (Zg (Zl K) (by rfl) T.n_len Boot.«len» (XY (Zo K (pv 0) rfl) XX)) XX)) (Zp (by decide)) (λ_ _ _ _=>(Zc (i:=0) (show List.Nodup (["tie","ties"]:List Str) by decide +kernel) rfl (Or.inl rfl))) (λ_ _ _ _=>(Wl (Zf (ZC K) (pv 0) (pv 1) rfl))) (λ_ _ _ _=>(pv 0))) XX)))),?_⟩;obtain⟨dx,tl,xs,h1,h2,h3⟩:=hW;have QT:=h3.1
  refine⟨_,rfl,w,_,dx,_,_,rfl,h1,T.cl_Web,T.n_Web_ties,Oz _ _,tl,xs,rfl,.inl (SqL.of h2),_,rfl,by lia,by lia,zK (lo:=0) (n:=(xs.length:Int).toNat) (λj ys H3=>H3=H/\∃ D:Ac,ys=IL D/\D.length<=j/\D.Pairwise (· < ·)/\∀ z,z∈D↔(0<=z/\z<(j:Int))/\z∉T') ⟨rfl,[],rfl,XJ _,.nil,λz=>⟨λh=>(by cases h),λh=>(by lia)⟩⟩ (Zh (by lia)) (λj ys H3 _ ⟨_,D,e,hl,_⟩=>by rwa[e,XB]) ?_ ?_⟩
  .rintro j ys H3 hj ⟨rfl,D,rfl,cR,hp,hm⟩ S Xq;have lt:∀ z∈D,z<(j:Int):=λz hz=>((hm z).mp hz).1.2
   refine nm ?_;refine⟨_,rfl,_,rfl,a,_,rfl,hA.or,rfl,Zq _,_,rfl,?_⟩;rw[Zy,HW];refine WX (λWC=>?_) (λWC=>?_)
   .refine Xq _ _ ⟨rfl,D,rfl,by lia,hp,λz=>?_⟩;rw[hm z];refine⟨λh=>⟨by lia,h.2⟩,λh=>⟨⟨h.1.1,?_⟩,h.2⟩⟩;by_cases e:z=(j:Int)
    .exact absurd (e ▸ WC) h.2
    .lia
   .refine⟨_,rfl,Xq _ _ ⟨rfl,D++[(j:Int)],?_,by rw[Xv];exact xw cR,?_,λz=>?_⟩⟩
    .rw[ZK]
    .exact Ld.mpr ⟨hp,QC _ _,λa ha b hb=>by rw[XC.mp hb];exact lt a ha⟩
    .rw[Xr,XC,hm z];constructor
     .rintro(⟨f1,f2⟩ | h)
      .exact⟨by lia,f2⟩
      .rw[h];exact⟨by lia,WC⟩
     .rintro⟨f1,f2⟩;by_cases e:z=(j:Int)
      .exact .inr e
      .exact .inl ⟨by lia,f2⟩
  rintro ys H3 ⟨rfl,D,rfl,cR,hp,hm⟩ la nB;rw[show(((xs.length:Int).toNat:Nat):Int)=(ps.length:Int) by lia]at hm;refine⟨la,_,rfl,.inl ⟨SqL.of XS,λtp Ck=>?_⟩⟩;exact q D hp hm tp _ ((XZ nB).trans (XZ Ck)) XS
def nz(K:Ad):Sp:=λvs H Q _=>∃(a:Addr) (kd:Bool) (ns:Ac) (z:Int),vs=[.ref a,.int z]/\SqK kd K H a (IL ns)/\ns.length<=1000 /\
 ∀(r:Addr) (H':Hp),Same H H'->H r=none->H' r=some (.tup (IL (wo ns z)))->Q (.ref r) H'
theorem ny:FnScope ["ties","left_out"] ["ties","left_out"] (XD sZa):=⟨rfl,rfl,rfl,by decide +kernel,rfl,by decide +kernel,by decide +kernel⟩
theorem IY (T:Txt K mg t):FnOk P w K mg base Xg 1 t.aZa t.dZa ["ties","left_out"] (nz K):=by
 refine T.fZa.ok ny (λvs H Q E h=>?_) (λXw A outer s H vs Q E hr h=>?_)
 .obtain⟨a,kd,ns,z,rfl,_⟩:=h;rfl
 .obtain⟨a,kd,ns,z,rfl,hS,hn,q⟩:=h;refine⟨_,(XI (Zj (Zm (ZG K) (by rfl) T.n_tuple Boot.«tuple» (XY (Vt rfl (sc0:=XD sZa) (N0:=["ties","left_out"]) (N':=["tie","left_out"]) (o:=1) (fr:=[1]) ⟨rfl,by decide +kernel,by decide +kernel,by decide +kernel,rfl,by decide +kernel⟩ (PX K (pv 0)) (Zp (by decide)) (λ_ _ _ _=>(Zc (i:=0) (show List.Nodup (["tie","left_out"]:List Str) by decide +kernel) rfl (Or.inl rfl))) (λ_ _ _ _=>(Wl (Zf Wo (pv 0) (pv 1) (Zt _)))) (λ_ _ _ _=>(pv 0))) XX)))),?_⟩;refine⟨_,rfl,a,rfl,ET (k:=kd) (K:=K) (xs:=IL ns) (λi ys H2=>H2=H/\i<=ns.length/\ys=IL (wo (ns.take i) z)) ⟨rfl,Yk _,rfl⟩ (Zh (by rw[XB];lia))
   (λi ys H2 hi ⟨e,VO,ey⟩=>⟨e ▸ hS,by rw[ey,XB];exact Yv (PM _ _) (by rw[Yj];lia)⟩) ?_ ?_⟩
  .rintro i x ys H2 hi ⟨rfl,Vh,rfl⟩ S Xq;obtain⟨y,rfl,hy⟩:=ZW hi;have Xf:i<ns.length:=(Xm.mp hy).1
   refine nm ?_;refine⟨_,rfl,_,rfl,rfl,_,rfl,?_⟩;rw[ZD];refine WX (λhe=>?_) (λhe=>?_)
   .refine Xq _ _ ⟨rfl,Xf,?_⟩;rw[zu hy,if_neg (by simpa using he),YE]
   .refine⟨_,rfl,Xq _ _ ⟨rfl,Xf,?_⟩⟩;rw[zu hy,if_pos he,ZK]
  .rintro ys H2 ⟨rfl,_,rfl⟩ p hp;rw[XB,YA];refine⟨p,_,rfl,.inl ⟨SqL.of XS,λr hr=>?_⟩⟩;exact q r _ (Zs (XZ hp) hr) ((XZ hp).free hr) XS
def nu(K:Ad)(C:Addr):Sp:=λvs H Q _=>∃(w a:Addr) (n:Int) (ps:Aa) (kd:Bool) (ns:Ac),vs=[.ref w,.ref a]/\WebAt C H w n ps/\SqK kd K H a (IL ns)/\∀ b:Bool,(b=true↔IsSet ps.length ns)->Q (.bl b) H
theorem MN:FnScope ["web","ties","last","tie"] ["web","ties"] (XD sZb):=⟨rfl,rfl,rfl,by decide +kernel,rfl,by decide +kernel,by decide +kernel⟩
theorem Cj (T:Txt K mg t):FnOk P w K mg base Xg 2 t.aZb t.dZb ["web","ties"] (nu K t.A_Web):=by
 refine T.fZb.ok MN (λvs H Q E h=>?_) (λXw A outer s H vs Q E hr h=>?_)
 .obtain⟨w,a,n,ps,kd,ns,rfl,_⟩:=h;rfl
 .obtain⟨w,a,n,ps,kd,ns,rfl,hW,hS,q⟩:=h;refine⟨_,(XO (Zi (i:=2) MN.nd rfl (Or.inl rfl) (FV FR XN))
   (XO (Vb YQ rfl (PX K (pv 1)) (Zc (i:=3) MN.nd rfl (Or.inl rfl))
   (XO (WD (PW.pt (Sv (Zf Ua (pv 3) (pv 2) (Zt _)) (Qq (OM (Qr (Xy (Cn T) (hr.mono (by decide)) rfl T.mZ6 T.fZ6.kp T.bZ6 .nil Zu (XY (pv 0) (XY (pv 3) XX))))))))
   (XI (Zj VF))
   Zn)
   (XI (Zi (i:=2) MN.nd rfl (Or.inl rfl) (pv 3)))))
   (XI (Zj VF)))),?_⟩
  refine⟨_,rfl,?_⟩;refine⟨_,rfl,a,rfl,RN (k:=kd) (K:=K) (xs:=IL ns) (λi σ H2=>∃(l:Int) (v:Option V),σ=[some (.ref w),some (.ref a),some (.int l),v]/\H2=H/\(i=0->l=-1)/\(i≠0->ns[i - 1]?=some l)/\∀ j z,j<i->ns[j]?=some z->0<=z/\z<(ps.length:Int)/\∀ y,j≠0->ns[j - 1]?=some y->y<z)
   ⟨-1,none,rfl,rfl,λ_=>rfl,λz=>absurd rfl z,λj z hj=>absurd hj (Wq j)⟩ (λi σ H2 _ ⟨_,_,_,e,_⟩=>e ▸ hS) ?_ ?_⟩
  .rintro i x σ H2 hi ⟨l,v,rfl,rfl,QS,Tx,hp⟩;obtain⟨z,rfl,hz⟩:=ZW hi;refine⟨_,rfl,_,rfl,_,_,rfl,rfl,_,rfl,?_⟩;refine Xc (λhc=>?_) (λhc=>?_)
   .-- tie<=last
    refine Wf ?_;refine q false ⟨λz=>(nomatch z),λhs=>?_⟩;obtain⟨b1,b2,b3⟩:=hs i z hz;by_cases h0:i=0
    .have:=QS h0;lia
    .have:=b3 l h0 (Tx h0);lia
   .refine⟨_,rfl,_,rfl,w,n,ps,z,rfl,hW,_,rfl,?_⟩;refine WX (λVL=>?_) (λVL=>?_)
    .refine⟨_,rfl,?_⟩;refine⟨z,_,rfl,rfl,λe=>(nomatch e),λ_=>by simpa using hz,λj y hj ey=>?_⟩;by_cases hji:j<i
     .exact hp j y hji ey
     .have e:j=i:=by lia
      subst e;rw[hz]at ey;cases ey;refine⟨VL.1,VL.2,λy h0 ey=>?_⟩;rw[Tx h0]at ey;cases ey;lia
    .refine q false ⟨λz=>(nomatch z),λhs=>?_⟩;obtain⟨b1,b2,b3⟩:=hs i z hz;exact absurd ⟨b1,b2⟩ VL
  .rintro σ H2 ⟨l,v,rfl,rfl,QS,Tx,hp⟩;refine q true ⟨λ_ i z hz=>?_,λ_=>rfl⟩;have hi:i<(IL ns).length:=by rw[XB];exact(Xm.mp hz).1
   exact hp i z hi hz
def nt(K:Ad)(C:Addr):Sp:=λvs H Q _=>∃(w a:Addr) (n:Int) (ps:Aa) (kd:Bool) (ns:Ac),vs=[.ref w,.ref a]/\WebAt C H w n ps/\SqK kd K H a (IL ns)/\IsSet ps.length ns /\
 ∀(r:Addr) (H':Hp),Same H H'->SqT K H' r (IL ns)->Q (.ref r) H'
theorem nr:FnScope ["web","ties"] ["web","ties"] (XD sZc):=⟨rfl,rfl,rfl,by decide +kernel,rfl,by decide +kernel,by decide +kernel⟩
theorem nq (T:Txt K mg t):FnOk P w K mg base Xg 3 t.aZc t.dZc ["web","ties"] (nt K t.A_Web):=by
 refine T.fZc.ok nr (λvs H Q E h=>?_) (λXw A outer s H vs Q E hr h=>?_)
 .obtain⟨w,a,n,ps,kd,ns,rfl,_⟩:=h;rfl
 .obtain⟨w,a,n,ps,kd,ns,rfl,hW,hS,hI,q⟩:=h;refine⟨_,(XO (WD (OM (Qr (Xy (Cj T) (hr.mono (by decide)) rfl T.mZb T.fZb.kp T.bZb .nil Zu (XY (pv 0) (XY (pv 1) XX)))))
   (XI ZV)
   Zn)
   (XI (Zj (Zm (ZG K) (by rfl) T.n_tuple Boot.«tuple» (XY (pv 1) XX))))),?_⟩
  refine⟨_,rfl,_,rfl,w,a,n,ps,kd,ns,rfl,hW,hS,λb hb=>⟨_,rfl,?_⟩⟩;refine EW (λ_=>?_) (λz=>?_)
  .refine⟨_,rfl,a,IL ns,rfl,?_⟩;cases kd with
   | false=>exact .inl ⟨hS,λl hl=>q l _ (XZ hl) (SqT.of XS)⟩
   | true=>exact .inr ⟨hS,q a H (Same.refl H) hS⟩
  .rw[hb.mpr hI]at z;cases z
def nj(K:Ad)(C:Addr):Sp:=λvs H Q _=>∃(w m a:Addr) (n:Int) (ps:Aa) (M:Ac) (kd:Bool) (ns:Ac),vs=[.ref w,.ref m,.ref a]/\WebAt C H w n ps/\Zz n ps/\H m=some (.lst (IL M))/\M.length=n.toNat/\SqK kd K H a (IL ns)/\(∀ z∈ns,0<=z/\z<(ps.length:Int)) /\
 ∀(m':Addr) (H':Hp),Same H H'->(m'=m\/H m'=none)->H' m'=some (.lst (IL (Ot M (XQ ps ns))))->Q (.ref m') H'
theorem Rt:FnScope ["web","marks","ties","tie","ends","low","high"] ["web","marks","ties"] (XD sZd):=⟨rfl,rfl,rfl,by decide +kernel,rfl,by decide +kernel,by decide +kernel⟩
theorem Ci (T:Txt K mg t):FnOk P w K mg base Xg 1 t.aZd t.dZd ["web","marks","ties"] (nj K t.A_Web):=by
 refine T.fZd.ok Rt (λvs H Q E h=>?_) (λXw A outer s H vs Q E hr h=>?_)
 .obtain⟨w,m,a,n,ps,M,kd,ns,rfl,_⟩:=h;rfl
 .obtain⟨w,m0,a,n,ps,M0,kd,ns,rfl,⟨dx,tl,xs,h1,h2,h3⟩,⟨g1,g2,g3,g4⟩,hm,hlM,hS,hI,q⟩:=h;refine⟨_,(XO (Vb YQ rfl (PX K (pv 2)) (Zc (i:=3) Rt.nd rfl (Or.inl rfl))
   (XO (Zi (i:=4) Rt.nd rfl (Or.inl rfl) (ZF (Zd K) (Zo K (pv 0) rfl) (pv 3) (λ_ _=>rfl)))
   (XO (Zi (i:=5) Rt.nd rfl (Or.inr rfl) (Zg (Qk rfl) (by rfl) T.n_min Boot.«min» (XY (ZF (Zd K) (pv 1) (ZF (ZJ K) (pv 4) XN (λ_ _=>rfl)) (λ_ _=>rfl)) (XY (ZF (Zd K) (pv 1) (ZF (ZJ K) (pv 4) XN (λ_ _=>rfl)) (λ_ _=>rfl)) XX))))
   (XO (Zi (i:=6) Rt.nd rfl (Or.inr rfl) (Zg (zV rfl) (by rfl) T.n_max Boot.«max» (XY (ZF (Zd K) (pv 1) (ZF (ZJ K) (pv 4) XN (λ_ _=>rfl)) (λ_ _=>rfl)) (XY (ZF (Zd K) (pv 1) (ZF (ZJ K) (pv 4) XN (λ_ _=>rfl)) (λ_ _=>rfl)) XX))))
   (XI (WD (Zf SW (pv 5) (pv 6) (Zt _))
   (XI (OE (i:=1) rfl Rt.nd rfl rfl (sc0:=XD sZd) (N0:=["web","marks","ties","tie","ends","low","high"]) (N':=["mark","high","low"]) (o:=1) (fr:=[6,5]) ⟨rfl,by decide +kernel,by decide +kernel,by decide +kernel,rfl,by decide +kernel⟩ (ZI K (pv 1)) (Zp (by decide)) (λ_ _ _ _=>(Zc (i:=0) (show List.Nodup (["mark","high","low"]:List Str) by decide +kernel) rfl (Or.inl rfl))) (λ_ _ _ _=>ZU) (λ_ _ _ _=>(wz (Zf VD (pv 0) (pv 1) (Zt _)) (pv 2) (pv 0)))))
   Zn))))))
   (XI (Zj (pv 1)))),?_⟩
  refine⟨_,rfl,a,rfl,RN (k:=kd) (K:=K) (a:=a) (xs:=IL ns) (λi σ H2=>∃(m:Addr) (v3 v4 v5 v6:Option V),σ=[some (.ref w),some (.ref m),some (.ref a),v3,v4,v5,v6]/\Same H H2/\(m=m0\/H m=none)/\H2 m=some (.lst (IL (Ot M0 (XQ ps (ns.take i))))))
   ⟨m0,none,none,none,none,rfl,Same.refl _,.inl rfl,hm⟩ (λi σ H2 _ ⟨_,_,_,_,_,_,s2,_⟩=>hS.same s2) ?_ ?_⟩
  .rintro i x σ H2 hi ⟨m,v3,v4,v5,v6,rfl,s2,QL,Wb⟩;obtain⟨z,rfl,hz⟩:=ZW hi;obtain⟨z0,z1⟩:=hI z (Xi hz);obtain⟨p,hp⟩:∃ p,ps[z.toNat]?=some p:=⟨_,Xu (by lia)⟩;obtain⟨v,hv,tt,rfl,UR⟩:=h3.2 z.toNat p hp;obtain⟨e1,e2,e3,e4⟩:=g4 p (Xi hp);have ed:ps.getD z.toNat (0,0)=p:=We hp
   refine⟨_,rfl,w,_,dx,_,_,rfl,s2 _ _ h1,T.cl_Web,T.n_Web_ties,Oz _ _,_,rfl,tl,xs,z,.ref tt,rfl,rfl,SqL.of (s2 _ _ h2),ZB (n:=z.toNat) (by lia) hv,?_⟩;have IZ:=s2 _ _ UR
   have hl:(Ot M0 (XQ ps (ns.take i))).length=n.toNat:=(ZE6 _ _).trans hlM;generalize hM:Ot M0 (XQ ps (ns.take i))=M at *;have ha:M[p.1.toNat]?=some (mk M p.1.toNat):=Ox (by grind)
   have hb:M[p.2.toNat]?=some (mk M p.2.toNat):=Ox (by grind);have iA:Ws (IL M) p.1=some (.int (mk M p.1.toNat)):=ZB (n:=p.1.toNat) (by lia) (by rw[Yn,ha];rfl)
   have iB:Ws (IL M) p.2=some (.int (mk M p.2.toNat)):=ZB (n:=p.2.toNat) (by lia) (by rw[Yn,hb];rfl);have t0:Ws ([.int p.1,.int p.2]:List V) 0=some (.int p.1):=rfl
   have t1:Ws ([.int p.1,.int p.2]:List V) 1=some (.int p.2):=rfl;refine⟨_,rfl,_,rfl,tt,_,0,_,rfl,rfl,SqT.of IZ,t0,m,_,p.1,_,rfl,rfl,SqL.of Wb,iA,_,rfl,_,rfl,tt,_,1,_,rfl,rfl,SqT.of IZ,t1,m,_,p.2,_,rfl,rfl,SqL.of Wb,iB,_,_,rfl,?_⟩;refine⟨_,rfl,_,rfl,tt,_,0,_,rfl,rfl,SqT.of IZ,t0,m,_,p.1,_,rfl,rfl,SqL.of Wb,iA,_,rfl,_,rfl,tt,_,1,_,rfl,rfl,SqT.of IZ,t1,m,_,p.2,_,rfl,rfl,SqL.of Wb,iB,_,_,rfl,?_⟩;have eL:(if mk M p.2.toNat<mk M p.1.toNat then mk M p.2.toNat else mk M p.1.toNat)=min (mk M p.1.toNat) (mk M p.2.toNat):=by rw[Int.min_def];split <;> split <;> lia
   have eH:(if mk M p.2.toNat > mk M p.1.toNat then mk M p.2.toNat else mk M p.1.toNat)=max (mk M p.1.toNat) (mk M p.2.toNat):=by rw[Int.max_def];split <;> split <;> lia
   refine⟨_,rfl,_,rfl,_,_,rfl,rfl,_,rfl,?_⟩;rw[eL,eH];have step:Ot M0 (XQ ps (ns.take (i+1)))=pm M p.1.toNat p.2.toNat:=by rw[ZU5 hz,Et,hM,ed]
   refine Xc (λhc=>?_) (λhc=>?_)
   .refine⟨_,rfl,m,rfl,⟨_,SqL.of Wb⟩,Sr (K:=K) (a:=m) (xs:=IL M) (λj ys H3=>H3=H2/\j<=M.length/\ys=IL ((M.take j).map λk=>if k=max (mk M p.1.toNat) (mk M p.2.toNat) then min (mk M p.1.toNat) (mk M p.2.toNat) else k)) ⟨rfl,Yk _,rfl⟩ (Zh (by rw[XB];grind))
     (λj ys H3 hj ⟨e,Ow,ey⟩=>⟨e ▸ SqL.of Wb,by rw[ey,XB,Ya,Yj];lia⟩) ?_ ?_⟩
    .rintro j y ys H3 hj ⟨rfl,Ow,rfl⟩ S Xq;obtain⟨k,rfl,hk⟩:=ZW hj;refine Oy ?_;refine⟨_,rfl,_,rfl,rfl,_,rfl,?_⟩;have WT:j<M.length:=(Xm.mp hk).1
     have app:∀ r:Int,r=(if k=max (mk M p.1.toNat) (mk M p.2.toNat) then min (mk M p.1.toNat) (mk M p.2.toNat) else k) ->
       IL ((M.take j).map λk=>if k=max (mk M p.1.toNat) (mk M p.2.toNat) then min (mk M p.1.toNat) (mk M p.2.toNat) else k)++[.int r]=IL ((M.take (j+1)).map λk=>if k=max (mk M p.1.toNat) (mk M p.2.toNat) then min (mk M p.1.toNat) (mk M p.2.toNat) else k):=by intro r er;rw[YL,hk,er];simp
     refine Xc (λhe=>?_) (λhe=>?_)
     .refine⟨_,rfl,Xq _ _ ⟨rfl,WT,app _ ?_⟩⟩;rw[if_pos (V.int.inj he)]
     .refine⟨_,rfl,Xq _ _ ⟨rfl,WT,app _ ?_⟩⟩;rw[if_neg λz=>he (Xx V.int z)]
    .rintro ys H3 ⟨rfl,_,rfl⟩ p' IX;refine⟨p',_,_,_,_,rfl,Zs s2 IX,.inr (s2.free IX),?_⟩;rw[XS,step,XB,YA];unfold pm;rw[if_pos hc]
   .refine⟨m,_,_,_,_,rfl,s2,QL,?_⟩;rw[Wb,step];unfold pm;rw[if_neg hc]
  .rintro σ H2 ⟨m,v3,v4,v5,v6,rfl,s2,QL,Wb⟩;rw[XB,YA]at Wb;exact⟨_,rfl,q m H2 s2 QL Wb⟩
def ni(K:Ad)(C:Addr):Sp:=λvs H Q _=>∃(w a:Addr) (n:Int) (ps:Aa) (ns:Ac),vs=[.ref w,.ref a]/\WebAt C H w n ps/\Zz n ps/\SqT K H a (IL ns)/\(∀ z∈ns,0<=z/\z<(ps.length:Int)) /\
 ∀(m:Addr) (H':Hp),Same H H'->H m=none->H' m=some (.lst (IL (Xs n.toNat (XQ ps ns))))->Q (.ref m) H'
theorem nh:FnScope ["web","ties"] ["web","ties"] (XD sZe):=⟨rfl,rfl,rfl,by decide +kernel,rfl,by decide +kernel,by decide +kernel⟩
theorem Rr (T:Txt K mg t):FnOk P w K mg base Xg 2 t.aZe t.dZe ["web","ties"] (ni K t.A_Web):=by
 refine T.fZe.ok nh (λvs H Q E h=>?_) (λXw A outer s H vs Q E hr h=>?_)
 .obtain⟨w,a,n,ps,ns,rfl,_⟩:=h;rfl
 .obtain⟨w,a,n,ps,ns,rfl,hW,hG,hS,hI,q⟩:=h;refine⟨_,(XI (Zj (Xy (Ci T) (hr.mono (by decide)) rfl T.mZd T.fZd.kp T.bZd .nil Zu (XY (pv 0) (XY (Zm (um rfl) (by rfl) T.n_list Boot.«list» (XY (Zm ZH8 (by rfl) T.n_range Boot.«range» (XY (Zo K (pv 0) rfl) XX)) XX)) (XY (pv 1) XX)))))),?_⟩;obtain⟨dx,tl,xs,h1,h2,h3⟩:=id hW;obtain⟨g1,g2,g3,g4⟩:=id hG;refine⟨_,rfl,_,rfl,w,_,dx,_,_,rfl,h1,T.cl_Web,T.n_Web_places,JU _ _,n,rfl,λr Vf=>⟨r,0,n,rfl,XS,⟨by decide,by decide,by lia,by omega⟩,by lia,λm hm=>?_⟩⟩;have sm:Same H (upd (upd H r (.rng 0 n)) m (.lst ((TX 0 n).map V.int))):=Zs (XZ Vf) hm
  refine⟨_,rfl,w,m,a,n,ps,(List.range n.toNat).map (λ(i:Nat)=>(i:Int)),true,ns,rfl,hW.same sm,hG,?_,by simp,LV sm hS,hI,λm' H' s' hf LS=>?_⟩
  .rw[XS,tQ]
  .refine q m' H' (sm.trans s') ?_ LS;rcases hf with rfl | hf
   .exact(XZ Vf).free hm
   .exact sm.free hf
def ng(K:Ad)(C:Addr):Sp:=λvs H Q _=>∃(w a:Addr) (n:Int) (ps:Aa) (kd:Bool) (ns:Ac),vs=[.ref w,.ref a]/\WebAt C H w n ps/\Zz n ps/\SqK kd K H a (IL ns)/\IsSet ps.length ns /\
 ∀(r:Addr) (as:List Addr) (H':Hp),Same H H'->H r=none->H' r=some (.lst (as.map V.ref))->r∉as->GrpAt H H' (JP (Xs n.toNat (XQ ps ns))) as->Q (.ref r) H'
theorem MM:FnScope ["web","ties","pieces","place","mark"] ["web","ties"] (XD sZf):=⟨rfl,rfl,rfl,by decide +kernel,rfl,by decide +kernel,by decide +kernel⟩
theorem nc (T:Txt K mg t):FnOk P w K mg base Xg 4 t.aZf t.dZf ["web","ties"] (ng K t.A_Web):=by
 refine T.fZf.ok MM (λvs H Q E h=>?_) (λXw A outer s H vs Q E hr h=>?_)
 .obtain⟨w,a,n,ps,kd,ns,rfl,_⟩:=h;rfl
 .obtain⟨w,a,n,ps,kd,ns,rfl,hW,hG,hS,hI,q⟩:=h;refine⟨_,(XO (Zi (i:=2) MM.nd rfl (Or.inl rfl) Fl)
   (XO (Vb YQ rfl (RM K rfl T.n_enumerate (XY (Xy (Rr T) (hr.mono (by decide)) rfl T.mZe T.fZe.kp T.bZe .nil Zu (XY (pv 0) (XY (Xy (nq T) (hr.mono (by decide)) rfl T.mZc T.fZc.kp T.bZc .nil Zu (XY (pv 0) (XY (pv 1) XX))) XX))) XX)) (PV (n:=2) K rfl (Zv (Zc (i:=3) MM.nd rfl (Or.inl rfl)) (Zv (Zc (i:=4) MM.nd rfl (Or.inl rfl)) QY)))
   (XI (ZN (Ui K YW Mw Mz LZ (Ui K i9 jl PySem.F.type_dict_setdefault ZQ3 (pv 2) (XY (pv 4) (XY (UA XX) XX))) (XY (pv 3) XX)))))
   (XI (Zj (Zm (Zw3 rfl) (by rfl) T.n_list Boot.«list» (XY (EN K i9 je PySem.F.type_dict_values Zc8 (pv 2)) XX)))))),?_⟩
  intro d hd;have s0:Same H (upd H d (.dK [])):=XZ hd
  refine⟨_,rfl,_,rfl,_,rfl,w,a,n,ps,kd,ns,rfl,hW.same s0,hS.same s0,hI,λr H1 s1 VH=>?_⟩;refine⟨w,r,n,ps,ns,rfl,(hW.same s0).same s1,hG,VH,hI.all,λm H2 s2 TK Wb=>?_⟩;have VN:Same H H2:=(s0.trans s1).trans s2
  have hd2:H2 d=some (.dK []):=s2 _ _ (s1 _ _ XS);have hl:(Xs n.toNat (XQ ps ns)).length=n.toNat:=ZE _ _
  generalize hM:Xs n.toNat (XQ ps ns)=M at *;have QL:H m=none:=(s0.trans s1).free TK
  have n14:M.length<=14:=by have:=hG.2.1;grind
  refine⟨m,rfl,⟨_,SqL.of Wb⟩,?_⟩;refine gP (K:=K) (a:=m) (xs:=IL M) (λi σ H3=>∃(as:List Addr) (v3 v4:Option V),σ=[some (.ref w),some (.ref a),some (.ref d),v3,v4]/\i<=M.length/\Same H H3/\H3 m=some (.lst (IL M))/\H3 d=some (.dK (UY (Xp M i) as))/\d∉as/\m∉as/\GrpAt H H3 (Xp M i) as/\as.length<=i)
   ⟨[],none,none,rfl,Yk _,VN,Wb,hd2,by simp,by simp,⟨rfl,List.nodup_nil,λi kv a e=>by simp[Xp]at e,λa ha=>by simp at ha⟩,XJ _⟩ (λi σ H3 _ ⟨_,_,_,_,_,_,h,_⟩=>SqL.of h) ?_ ?_
  .rintro i x σ H3 pt SG hi ⟨as,v3,v4,rfl,Vh,s3,Cg,Oi,yt,yr,gA,cQ⟩;obtain⟨k,rfl,hk⟩:=ZW hi;have TF:mk M i=k:=We hk
   have Xf:i<M.length:=(Xm.mp hk).1;have s4:Same H3 (upd H3 pt (.tup [.int i,.int k])):=XZ SG
   refine⟨pt,_,rfl,SqT.of XS,rfl,_,_,rfl,_,_,rfl,rfl,?_⟩;refine⟨_,rfl,.inr (.inr (.inl ⟨rfl,.inl ⟨_,s4 _ _ Oi⟩⟩)),_,rfl,(by show 0<=sizeLine;exact Yk _),λl QS=>?_⟩;have s5:Same H3 (upd (upd H3 pt (.tup [.int i,.int k])) l (.lst [])):=Zs s4 QS
   have cP:=s5 _ _ Oi;have QK:H3 l=none:=s4.free QS
   have m9:d≠l:=Zb Oi QK;have gl:=gA.len
   refine⟨d,UY (Xp M i) as,Sum.inl k,.ref l,rfl,rfl,cP,?_,λv hv=>?_,λhv=>?_⟩
   .rw[tP gl];exact Zh (by grind)
   .-- the mark has XW list
    rcases JO (g:=Xp M i) (as:=as) (k:=k) gl with ⟨h1,_⟩ | ⟨j,kv,b,e1,e2,e3,e4⟩
    .rw[h1]at hv;cases hv
    .rw[e4]at hv;cases hv;have cO:=s5 _ _ (gA.at_ j kv b e1 e2)
     have yy:k∈(Xp M i).map (·.1):=YD.mpr ⟨kv,Xi e1,e3⟩;have hlen:kv.2.length<=i:=tR (Xi e1)
     refine⟨.inl ⟨rfl,_,SqL.of cO⟩,_,rfl,b,_,.int i,rfl,rfl,cO,?_,?_⟩
     .rw[XB];exact Zh (by grind)
     .have IW:b∈as:=Xi e2;have RS:d≠b:=λz=>yt (z ▸ IW)
      have hmb:m≠b:=λz=>yr (z ▸ IW);have Nf:=gA.new b IW
      have Lo:(Xp M (i+1)).map (·.1)=(Xp M i).map (·.1):=by show(SO (Xp M i) (i:Int) (mk M i)).map (·.1)=_;rw[Nv,TF,if_pos yy]
      refine⟨as,_,_,rfl,Xf,ZA Nf (s3.trans s5),by rw[Za hmb];exact s5 _ _ Cg,by rw[Za RS,cP,gM Lo],yt,yr,⟨?_,gA.nd,?_,gA.new⟩,by lia⟩
      .have:=Xx List.length Lo
       rw[Ya,Ya]at this;lia
      .intro i2 yq a2 f1 f2;have f1:(SO (Xp M i) (i:Int) (mk M i))[i2]?=some yq:=f1
       unfold SO at f1;rw[TF,if_pos yy,Yn]at f1;cases f3:(Xp M i)[i2]? with
       | none=>rw[f3]at f1;cases f1
       | some GX =>
        rw[f3]at f1;have f1:(if GX.1=k then (GX.1,GX.2++[(i:Int)]) else GX)=yq:=Yi f1
        by_cases hj:i2=j
        .subst hj;rw[e1]at f3;cases f3;rw[e2]at f2;cases f2;rw[if_pos e3]at f1;subst f1;rw[XS];simp
        .have VJ:a2≠b:=λz=>by subst z;exact hj (Hz gA.nd f2 e2)
         have hkk:¬ GX.1=k:=λz=>hj (Hz (tS M i) (by rw[Yn,f3];exact Xx some z) (by rw[Yn,e1];exact Xx some e3));rw[if_neg hkk]at f1;subst f1;rw[Za VJ];exact s5 _ _ (gA.at_ i2 GX a2 f3 f2)
   .-- a new list
    rcases JO (g:=Xp M i) (as:=as) (k:=k) gl with ⟨h1,hkn⟩ | ⟨j,kv,b,e1,e2,e3,e4⟩
    .have Cf:(upd (upd (upd H3 pt (.tup [.int i,.int k])) l (.lst [])) d (.dK (UY (Xp M i) as++[(Sum.inl k,.ref l)]))) l=some (.lst []):=by rw[Za (XG m9),XS]
     refine⟨.inl ⟨rfl,_,SqL.of Cf⟩,_,rfl,l,[],.int i,rfl,rfl,Cf,(by show 0<sizeLine;decide),?_⟩;have Ce:H l=none:=s3.free QK
     have m8:l∉as:=λz=>by obtain⟨_,e⟩:=gA.mem z;rw[QK]at e;cases e
     have Ov:m≠l:=Zb Cg QK;have hmd:m≠d:=VG Cg Oi (λz=>nomatch z)
     have m7:Xp M (i+1)=Xp M i++[(k,[(i:Int)])]:=by show SO (Xp M i) (i:Int) (mk M i)=_;unfold SO;rw[TF,if_neg hkn]
     have hdH:H d=none:=hd;refine⟨as++[l],_,_,rfl,Xf,ZA Ce (ZA hdH (s3.trans s5)),by rw[Za Ov,Za hmd];exact s5 _ _ Cg,?_,?_,?_,⟨?_,?_,?_,?_⟩,?_⟩
     .rw[Za m9,XS,m7,EI gl]
     .rw[Xr,XC];rintro(z | z)
      .exact yt z
      .exact m9 z
     .rw[Xr,XC];rintro(z | z)
      .exact yr z
      .exact Ov z
     .rw[m7,Xv,Xv,gl];rfl
     .exact ES gA.nd m8
     .intro i2 yq a2 f1 f2;rw[m7]at f1;by_cases VO:i2<(Xp M i).length
      .rw[Yu VO]at f1;rw[Yu (by lia)]at f2;have e:=gA.at_ i2 yq a2 f1 f2
       have n1:a2≠l:=Zb e QK;have n2:a2≠d:=VG e Oi (λz=>nomatch z)
       rw[Za n1,Za n2];exact s5 _ _ e
      .have h2:i2=(Xp M i).length:=by
        have:=(Xm.mp f1).1
        rw[Xv,Yp]at this;grind
       subst h2;rw[Ys (XJ _),QE]at f1;rw[Ys (by lia),gl,QE]at f2;cases f1;cases f2;rw[XS];rfl
     .intro a2 ha2;rcases Xr.mp ha2 with z | z
      .exact gA.new a2 z
      .rw[XC.mp z];exact Ce
     .rw[Xv,Yp];lia
    .rw[e4]at hv;cases hv
  .rintro σ H3 ⟨as,v3,v4,rfl,Vh,s3,Cg,Oi,yt,yr,gA,cQ⟩;rw[XB]at Oi gA;refine⟨_,rfl,.inr (.inr (.inl ⟨rfl,.inl ⟨_,Oi⟩⟩)),d,_,rfl,rfl,Oi,λp hp=>?_⟩;have s6:Same H3 (upd H3 p (RO p d)):=XZ hp
   refine⟨p,d,_,rfl,XS,s6 _ _ Oi,λr Vf=>?_⟩;have s7:Same H3 (upd (upd H3 p (RO p d)) r (.lst ((UY (Xp M M.length) as).map (·.2)))):=Zs s6 Vf
   refine q r as _ (s3.trans s7) ((s3.trans s6).free Vf) (by rw[XS,gN gA.len]) (λz=>?_) (gA.same s7);obtain⟨_,e⟩:=gA.mem z;rw[s6.free Vf]at e;cases e
def m6(K:Ad)(C:Addr):Sp:=λvs H Q _=>∃(w a:Addr) (n:Int) (ps:Aa) (kd:Bool) (ns:Ac),vs=[.ref w,.ref a]/\WebAt C H w n ps/\Zz n ps/\SqK kd K H a (IL ns)/\IsSet ps.length ns /\
 ∀(b:Bool) (H':Hp),Same H H'->(b=true↔(JP (Xs n.toNat (XQ ps ns))).length=1)->Q (.bl b) H'
theorem m5:FnScope ["web","ties"] ["web","ties"] (XD sZg):=⟨rfl,rfl,rfl,by decide +kernel,rfl,by decide +kernel,by decide +kernel⟩
theorem mZ (T:Txt K mg t):FnOk P w K mg base Xg 5 t.aZg t.dZg ["web","ties"] (m6 K t.A_Web):=by
 refine T.fZg.ok m5 (λvs H Q E h=>?_) (λXw A outer s H vs Q E hr h=>?_)
 .obtain⟨w,a,n,ps,kd,ns,rfl,_⟩:=h;rfl
 .obtain⟨w,a,n,ps,kd,ns,rfl,hW,hG,hS,hI,q⟩:=h;refine⟨_,(XI (Zj (NG VD (Zg (Zl K) (by rfl) T.n_len Boot.«len» (XY (Xy (nc T) (hr.mono (by decide)) rfl T.mZf T.fZf.kp T.bZf .nil Zu (XY (pv 0) (XY (pv 1) XX))) XX)) XN (Zt _)))),?_⟩;refine⟨_,rfl,_,rfl,w,a,n,ps,kd,ns,rfl,hW,hG,hS,hI,λr as H' s1 Vf VH hnr gA=>?_⟩;refine⟨r,_,rfl,.inl (SqL.of VH),rfl,?_⟩;rw[Ya,gA.len,ZD];refine q _ H' s1 ?_;rw[YM];lia
def mY(K:Ad)(C:Addr):Sp:=λvs H Q _=>∃(w b:Addr) (n:Int) (ps:Aa) (ws:Ac),vs=[.ref w,.ref b]/\WebAt C H w n ps/\Zz n ps/\SqL K H b (IL ws)/\ws.length=ps.length /\
 ∀(r:Addr) (ys:List V) (L:Ab) (H':Hp),Same H H'->H r=none->TabAt H r n.toNat H' ys L->(∀ i j,i<n.toNat->j<n.toNat->fnL L i j=lapE (VI ps ws) i j)->Q (.ref r) H'
theorem cN(x:V)(k:Nat):(List.replicate k [x]).flatten=List.replicate k x:=by
 induction k with
 | zero=>rfl
 | succ k ih=>rw[Lb,GG,ih,Lb];rfl
theorem mX(n i j:Nat):fnL (List.replicate n (List.replicate n 0)) i j=0:=by
 unfold fnL;cases h:(List.replicate n (List.replicate n (0:Int)))[i]? with
 | none =>
  have e:(List.replicate n (List.replicate n (0:Int))).getD i []=[]:=by rw[WO,h];rfl
  rw[e];rfl
 | some l =>
  have e:(List.replicate n (List.replicate n (0:Int))).getD i []=l:=by rw[WO,h];rfl
  rw[e,AH (Xi h),WO,AG];split <;> rfl
theorem TabAt.get{H0 H:Hp}{r:Addr}{n:Nat}{ys:List V}{L:Ab}(h:TabAt H0 r n H ys L){i j:Nat}(hi:i<n)(hj:j<n):∃(A:Addr) (l:Ac) (x:Int),ys[i]?=some (.ref A)/\H A=some (.lst (IL l))/\l[j]?=some x/\l.length=n/\x=fnL L i j/\H0 A=none/\∀ y:Int,∃ L':Ab,TabAt H0 r n (upd H A (.lst ((IL l).set j (.int y)))) ys L'/\∀ a b,fnL L' a b=if a=i/\b=j then y else fnL L a b:=by
 obtain⟨A,l,y1,z1,hA,hl,hn,hr⟩:=h.at hi;obtain⟨x,hx⟩:∃ x,l[j]?=some x:=⟨_,Xu (by lia)⟩;refine⟨A,l,x,y1,hA,hx,hl,(Oo z1 hx).symm,hn,λy=>⟨L.set i (l.set j y),?_,qZ z1 (by lia)⟩⟩;have e:(IL l).set j (.int y)=IL (l.set j y):=(List.map_set ..).symm
 rw[e];exact h.put y1 z1 hr (by rwa[Mn])
theorem yp{xs:List V}{i:Int}(h0:0<=i)(h1:i<(xs.length:Int)):OJ xs.length i=some i.toNat:=by unfold OJ;rw[if_pos h0,if_pos (by omega)]
theorem Rq:FnScope ["web","weights","table","ends","weight","one","other"] ["web","weights"] (XD sZh):=⟨rfl,rfl,rfl,by decide +kernel,rfl,by decide +kernel,by decide +kernel⟩
theorem mW (T:Txt K mg t):FnOk P w K mg base Xg 1 t.aZh t.dZh ["web","weights"] (mY K t.A_Web):=by
 refine T.fZh.ok Rq (λvs H Q E h=>?_) (λXw A outer s H vs Q E hr h=>?_)
 .obtain⟨w,b,n,ps,ws,rfl,_⟩:=h;rfl
 .obtain⟨w,b,n,ps,ws,rfl,hW,hG,hS,Kc,q⟩:=h;refine⟨_,(XO (OE (i:=2) rfl Rq.nd rfl rfl (sc0:=XD sZh) (N0:=["web","weights","table","ends","weight","one","other"]) (N':=["place","web"]) (o:=1) (fr:=[0]) ⟨rfl,by decide +kernel,by decide +kernel,by decide +kernel,rfl,by decide +kernel⟩ (UD rfl T.n_range (XY (Zo K (pv 0) rfl) XX)) (Zp (by decide)) (λ_ _ _ _=>(Zc (i:=0) (show List.Nodup (["place","web"]:List Str) by decide +kernel) rfl (Or.inl rfl))) (λ_ _ _ _=>ZU) (λ_ _ _ _=>(Zr LY (UA (XY XN XX)) (Zo K (pv 1) rfl))))
   (XO (Vb YQ rfl (LH K rfl T.n_zip (XY (Zo K (pv 0) rfl) (XY (pv 1) XX))) (PV (n:=2) K rfl (Zv (Zc (i:=3) Rq.nd rfl (Or.inl rfl)) (Zv (Zc (i:=4) Rq.nd rfl (Or.inl rfl)) QY)))
   (XO (Zi (i:=5) Rq.nd rfl (Or.inl rfl) (ZF (ZJ K) (pv 3) XN (λ_ _=>rfl)))
   (XO (Zi (i:=6) Rq.nd rfl (Or.inl rfl) (ZF (ZJ K) (pv 3) XN (λ_ _=>rfl)))
   (XI (WD (Zf Wo (pv 5) (pv 6) (Zt _))
   (XO (zX (ZF (Zd K) (pv 2) (pv 5) (λ_ _=>rfl)) (pv 5) (y9 K) (pv 4) Gd RQ)
   (XO (zX (ZF (Zd K) (pv 2) (pv 6) (λ_ _=>rfl)) (pv 6) (y9 K) (pv 4) Gd RQ)
   (XO (zX (ZF (Zd K) (pv 2) (pv 5) (λ_ _=>rfl)) (pv 6) (y9 K) (pv 4) Gb RQ)
   (XI (zX (ZF (Zd K) (pv 2) (pv 6) (λ_ _=>rfl)) (pv 5) (y9 K) (pv 4) Gb RQ)))))
   Zn)))))
   (XI (Zj (pv 2))))),?_⟩
  obtain⟨dx,tl,xs,h1,h2,h3⟩:=id hW;have hl:=h3.1
  obtain⟨g1,g2,g3,g4⟩:=id hG;have one:1<=sizeLine:=by decide
  refine⟨_,rfl,w,_,dx,_,_,rfl,h1,T.cl_Web,T.n_Web_places,JU _ _,n,rfl,by lia,by lia,zK (lo:=0) (n:=n.toNat) (λi zs H2=>Same H H2/\Bears (VR H2) zs (List.replicate i (List.replicate n.toNat 0))/\zs.Nodup/\∀ A,V.ref A∈zs->H A=none/\∃ o,H2 A=some o) ⟨Same.refl _,⟨rfl,λi l e=>by simp at e⟩,.nil,λA h=>(by cases h)⟩ (Zh (by lia)) (λi zs H2 _ ⟨_,e,_⟩=>by rw[e.1,YK];exact XJ _) ?_ ?_⟩
  .rintro i zs H2 hi ⟨s2,hZ,Ti,RP⟩ S Xq;refine nm ?_;refine⟨one,λp1 Vx=>?_⟩;have u1:=XZ (o:=.lst [.int 0]) Vx
   refine⟨_,rfl,w,_,dx,_,_,rfl,u1 _ _ (s2 _ _ h1),T.cl_Web,T.n_Web_places,JU _ _,p1,n,_,rfl,rfl,XS,by lia,by lia,OA (by show 1 * n.toNat<=_;lia),λp2 Wg=>?_⟩;have e0:(List.replicate n.toNat [V.int 0]).flatten=IL (List.replicate n.toNat 0):=by rw[cN];show _=(List.replicate n.toNat 0).map V.int;rw[List.map_replicate]
   rw[e0];have u2:=u1.trans (XZ (o:=.lst (IL (List.replicate n.toNat 0))) Wg)
   have Cd:H2 p2=none:=(XZ Vx).free Wg;refine Xq _ _ ⟨s2.trans u2,?_,?_,λA hA=>?_⟩
   .rw[List.replicate_succ'];exact(hZ.imp λ_ _ ⟨r',e,h⟩=>⟨r',e,u2 _ _ h⟩).snoc ⟨p2,rfl,XS⟩
   .refine Wr.mpr ⟨Ti,by simp,λx hx y hy e=>?_⟩;rw[XC.mp hy]at e;obtain⟨_,o,ho⟩:=RP p2 (e ▸ hx);rw[Cd]at ho;cases ho
   .rcases Xr.mp hA with e | e
    .obtain⟨a1,o,a2⟩:=RP A e;exact⟨a1,o,u2 _ _ a2⟩
    .have e':A=p2:=by simpa using e
     rw[e'];exact⟨s2.free Cd,_,XS⟩
  rintro zs H2 ⟨s2,hZ,Ti,RP⟩ tA Vr;have s3:=s2.trans (XZ (o:=.lst zs) Vr)
  have mV:H tA=none:=s2.free Vr;have hT:TabAt H tA n.toNat (upd H2 tA (.lst zs)) zs (List.replicate n.toNat (List.replicate n.toNat 0)):=⟨XS,hZ.imp λ_ _ ⟨r',e,h⟩=>⟨r',e,XZ Vr _ _ h,Zb h Vr⟩,YK,λl h=>by rw[AH h];exact YK,Ti,λA h=>(RP A h).1⟩
  have hzero:∀ i j,fnL (List.replicate n.toNat (List.replicate n.toNat 0)) i j=0:=λi j=>by
   have:=mX n.toNat i j
   exact this
  generalize upd H2 tA (.lst zs)=H3 at *;generalize List.replicate n.toNat (List.replicate n.toNat (0:Int))=L0 at *;refine⟨_,rfl,w,_,dx,_,_,rfl,s3 _ _ h1,T.cl_Web,T.n_Web_ties,Oz _ _,_,rfl,tl,b,rfl,⟨_,_,SqL.of (s3 _ _ h2),s3.seq hS⟩,q8 (K:=K) (a:=tl) (b:=b) (xs:=xs) (ys:=IL ws) (by rw[XB];lia) (λi σ H4=>∃(L:Ab) (v3 v4 v5 v6:Option V),σ=[some (.ref w),some (.ref b),some (.ref tA),v3,v4,v5,v6]/\Same H H4/\TabAt H tA n.toNat H4 zs L/\∀ x y,x<n.toNat->y<n.toNat->fnL L x y=lapE (VI (ps.take i) (ws.take i)) x y) ⟨L0,none,none,none,none,rfl,s3,hT,λx y _ _=>hzero x y⟩ (λi σ H4 _ ⟨_,_,_,_,_,_,e,_⟩=>⟨SqL.of (e _ _ h2),e.seq hS⟩) ?_ ?_⟩
  .rintro i v v' σ H4 pt SG hi PN ⟨L,v3,v4,v5,v6,rfl,s4,mU,Ph⟩;obtain⟨p,hp,tt,rfl,UR⟩:=h3.at hi;obtain⟨wt,rfl,hwt⟩:=ZW PN;obtain⟨e1,e2,e3,e4⟩:=g4 p (Xi hp);have u1:=XZ (o:=.tup [.ref tt,.int wt]) SG
   refine⟨pt,_,rfl,SqT.of XS,rfl,_,_,rfl,_,_,rfl,rfl,?_⟩;have mT:=mU.same u1
   have s5:=s4.trans u1;generalize upd H4 pt (.tup [.ref tt,.int wt])=H5 at *;refine⟨_,rfl,tt,_,0,.int p.1,rfl,rfl,SqT.of (s5 _ _ UR),rfl,?_⟩;refine⟨_,rfl,tt,_,1,.int p.2,rfl,rfl,SqT.of (s5 _ _ UR),rfl,?_⟩;refine⟨_,rfl,_,rfl,rfl,_,rfl,?_⟩;rw[ZD];have cM:=qY hp hwt
   refine WX (λheq=>?_) (λXH=>?_)
   .refine⟨L,_,_,_,_,rfl,s5,mT,λx y hx hy=>?_⟩;rw[cM,DR (by show p.1.toNat=p.2.toNat;rw[heq])];exact Ph x y hx hy
   have JM:p.1.toNat≠p.2.toNat:=λe=>XH (by grind);obtain⟨A1,l1,x1,y1,Ou,hx1,Tx,rR,Cc,mS⟩:=mT.get (i:=p.1.toNat) (j:=p.1.toNat) (by grind) (by lia);refine⟨_,rfl,_,rfl,tA,zs,p.1,.ref A1,rfl,rfl,SqL.of mT.tab,ZB (n:=p.1.toNat) (by lia) y1,_,rfl,A1,_,p.1,.int x1,rfl,rfl,SqL.of Ou,by lia,WI hx1,_,rfl,_,_,rfl,rfl,A1,_,p.1,p.1.toNat,rfl,rfl,Ou,yp (by lia) (by rw[XB];grind),?_⟩;obtain⟨L1,cL,yn⟩:=mS (x1+wt);have s6:Same H (upd H5 A1 (.lst ((IL l1).set p.1.toNat (.int (x1+wt))))):=ZA Cc s5
   generalize upd H5 A1 (.lst ((IL l1).set p.1.toNat (.int (x1+wt))))=H6 at *;rw[rR]at yn;obtain⟨A2,l2,x2,y2,Tj,mR,Su,ex2,OL,put2⟩:=cL.get (i:=p.2.toNat) (j:=p.2.toNat) (by grind) (by lia);refine⟨_,rfl,_,rfl,tA,zs,p.2,.ref A2,rfl,rfl,SqL.of cL.tab,ZB (n:=p.2.toNat) (by lia) y2,_,rfl,A2,_,p.2,.int x2,rfl,rfl,SqL.of Tj,by lia,WI mR,_,rfl,_,_,rfl,rfl,A2,_,p.2,p.2.toNat,rfl,rfl,Tj,yp (by lia) (by rw[XB];grind),?_⟩;obtain⟨L2,cK,ML⟩:=put2 (x2+wt);have s7:Same H (upd H6 A2 (.lst ((IL l2).set p.2.toNat (.int (x2+wt))))):=ZA OL s6
   generalize upd H6 A2 (.lst ((IL l2).set p.2.toNat (.int (x2+wt))))=H7 at *;rw[ex2]at ML;obtain⟨A3,l3,x3,y3,Nr,hx3,QK,ex3,hn3,put3⟩:=cK.get (i:=p.1.toNat) (j:=p.2.toNat) (by grind) (by grind);refine⟨_,rfl,_,rfl,tA,zs,p.1,.ref A3,rfl,rfl,SqL.of cK.tab,ZB (n:=p.1.toNat) (by lia) y3,_,rfl,A3,_,p.2,.int x3,rfl,rfl,SqL.of Nr,by lia,WI hx3,_,rfl,_,_,rfl,rfl,A3,_,p.2,p.2.toNat,rfl,rfl,Nr,yp (by lia) (by rw[XB];grind),?_⟩;obtain⟨L3,cJ,ym⟩:=put3 (x3 - wt);have s8:Same H (upd H7 A3 (.lst ((IL l3).set p.2.toNat (.int (x3 - wt))))):=ZA hn3 s7
   generalize upd H7 A3 (.lst ((IL l3).set p.2.toNat (.int (x3 - wt))))=H8 at *;rw[ex3]at ym;obtain⟨A4,l4,x4,y4,Ln,yk,hl4,ex4,mQ,mP⟩:=cJ.get (i:=p.2.toNat) (j:=p.1.toNat) (by grind) (by grind);refine⟨_,rfl,_,rfl,tA,zs,p.2,.ref A4,rfl,rfl,SqL.of cJ.tab,ZB (n:=p.2.toNat) (by lia) y4,_,rfl,A4,_,p.1,.int x4,rfl,rfl,SqL.of Ln,by lia,WI yk,_,rfl,_,_,rfl,rfl,A4,_,p.1,p.1.toNat,rfl,rfl,Ln,yp (by lia) (by rw[XB];grind),?_⟩;obtain⟨L4,hT9,yj⟩:=mP (x4 - wt);have s9:Same H (upd H8 A4 (.lst ((IL l4).set p.1.toNat (.int (x4 - wt))))):=ZA mQ s8
   generalize upd H8 A4 (.lst ((IL l4).set p.1.toNat (.int (x4 - wt))))=H9 at *;rw[ex4]at yj;refine⟨L4,_,_,_,_,rfl,s9,hT9,λx y hx hy=>?_⟩;rw[cM,rC,<- Ph x y hx hy];exact four JM x y yn ML ym yj
  .rintro σ H4 ⟨L,v3,v4,v5,v6,rfl,s4,mU,Ph⟩;rw[hl,YA,<- Kc,YA]at Ph;exact⟨_,rfl,q tA zs L H4 s4 mV mU Ph⟩
def mO(K:Ad)(C:Addr):Sp:=λvs H Q _=>∃(w:Addr) (n:Int) (ps:Aa),vs=[.ref w]/\WebAt C H w n ps/\Zz n ps /\
 ∀(r:Addr) (ys:List V) (L:Ab) (H':Hp),Same H H'->H r=none->TabAt H r n.toNat H' ys L->(∀ i j,i<n.toNat->j<n.toNat->fnL L i j=lapE (VI ps (List.replicate ps.length 1)) i j)->Q (.ref r) H'
theorem mN:FnScope ["web"] ["web"] (XD sZi):=⟨rfl,rfl,rfl,by decide +kernel,rfl,by decide +kernel,by decide +kernel⟩
theorem mM (T:Txt K mg t):FnOk P w K mg base Xg 2 t.aZi t.dZi ["web"] (mO K t.A_Web):=by
 refine T.fZi.ok mN (λvs H Q E h=>?_) (λXw A outer s H vs Q E hr h=>?_)
 .obtain⟨w,n,ps,rfl,_⟩:=h;rfl
 .obtain⟨w,n,ps,rfl,hW,hG,q⟩:=h;refine⟨_,(XI (Zj (Xy (mW T) (hr.mono (by decide)) rfl T.mZh T.fZh.kp T.bZh .nil Zu (XY (pv 0) (XY (Zr LY (UA (XY XN XX)) (Zg (Zl K) (by rfl) T.n_len Boot.«len» (XY (Zo K (pv 0) rfl) XX))) XX))))),?_⟩;obtain⟨dx,tl,xs,h1,h2,h3⟩:=id hW;have hl:=h3.1
  have g3:=hG.2.2.1;refine⟨_,rfl,(by show 1<=sizeLine;decide),λp1 Vx=>?_⟩;have u1:=XZ (o:=.lst [.int 1]) Vx
  refine⟨_,rfl,w,_,dx,_,_,rfl,u1 _ _ h1,T.cl_Web,T.n_Web_ties,Oz _ _,tl,xs,rfl,.inl (SqL.of (u1 _ _ h2)),p1,(xs.length:Int),_,rfl,rfl,XS,by lia,by lia,OA (by show 1 * _<=_;lia),λp2 Wg=>?_⟩;have e0:(List.replicate (xs.length:Int).toNat [V.int 1]).flatten=IL (List.replicate ps.length 1):=by
   rw[YH,hl,cN];show _=(List.replicate ps.length 1).map V.int
   rw[List.map_replicate]
  rw[e0];have u2:=u1.trans (XZ (o:=.lst (IL (List.replicate ps.length 1))) Wg)
  refine⟨w,p2,n,ps,List.replicate ps.length 1,rfl,hW.same u2,hG,SqL.of XS,YK,λr ys L H' s hr hT hf=>?_⟩;exact q r ys L H' (u2.trans s) (u2.free hr) ⟨hT.tab,hT.rows,hT.len,hT.all,hT.nd,λA h=>u2.free (hT.new A h)⟩ hf
def mL(K:Ad)(C:Addr):Sp:=λvs H Q _=>∃(w:Addr) (n:Int) (ps:Aa),vs=[.ref w]/\WebAt C H w n ps/\Zz n ps/\∀(c:Nat) (H':Hp),TC n ps c->Same H H'->Q (.int c) H'
theorem cI(u v i:Nat):(ind u v i).natAbs<=1:=by unfold ind;split <;> split <;> decide
theorem cH:∀ {E:List Ed},(∀ e∈E,e.2.2=1)->∀ i j,(lapE E i j).natAbs<=E.length
 | [],_,i,j=>XJ 0
 | e :: E,h,i,j=>by
  have ih:=cH (λf hf=>h f (Yf _ hf)) i j;have h1:=cI e.1 e.2.1 i
  have h2:=cI e.1 e.2.1 j;have h3:(ind e.1 e.2.1 i * ind e.1 e.2.1 j).natAbs<=1:=by rw[xi];exact KW h1 h2
  show(e.2.2 * (ind e.1 e.2.1 i * ind e.1 e.2.1 j)+lapE E i j).natAbs<=(e :: E).length;rw[h e Yc,Tc,Yt]
  have:=Int.natAbs_add_le (ind e.1 e.2.1 i * ind e.1 e.2.1 j) (lapE E i j)
  lia
theorem cG{α:Type}{l:List α}{i:Nat}(hi:l.length=i+1):cutz l (i:Int)=l.take i:=by unfold cutz;rw[YH,Ii (by lia),YE]
theorem mK:FnScope ["web"] ["web"] (XD sZj):=⟨rfl,rfl,rfl,by decide +kernel,rfl,by decide +kernel,by decide +kernel⟩
theorem IV (T:Txt K mg t):FnOk P w K mg base Xg 3 t.aZj t.dZj ["web"] (mL K t.A_Web):=by
 refine T.fZj.ok mK (λvs H Q E h=>?_) (λXw A outer s H vs Q E hr h=>?_)
 .obtain⟨w,n,ps,rfl,_⟩:=h;rfl
 .obtain⟨w,n,ps,rfl,hW,hG,q⟩:=h;refine⟨_,(XI (Zj (Xy (n5 T) (hr.mono (by decide)) rfl T.mZ3 T.fZ3.kp T.bZ3 .nil Zu (XY (Xy (nO T) (hr.mono (by decide)) rfl T.mZ5 T.fZ5.kp T.bZ5 .nil Zu (XY (Xy (mM T) (hr.mono (by decide)) rfl T.mZi T.fZi.kp T.bZi .nil Zu (XY (pv 0) XX)) (XY (Zr VS (Zo K (pv 0) rfl) XN) XX))) XX)))),?_⟩;obtain⟨g1,g2,g3,g4⟩:=id hG;refine⟨_,rfl,w,n,ps,rfl,hW,hG,λr ys L H1 s1 hr hT hf=>?_⟩;obtain⟨dx,tl,xs,h1,h2,h3⟩:=id hW;refine⟨_,rfl,w,_,dx,_,_,rfl,s1 _ _ h1,T.cl_Web,T.n_Web_places,JU _ _,_,_,rfl,rfl,?_⟩;obtain⟨k,hk⟩:∃ k:Nat,n - 1=(k:Int):=⟨(n - 1).toNat,by omega⟩;have hnk:n.toNat=k+1:=by grind
  have cU:=hT.len;have hTB:Bears (VR H1) ys L:=hT.rows.imp λ_ _ h=>h.list
  refine⟨r,ys,L,k,?_,SqL.of hT.tab,hTB,by grind,λl h=>by rw[hT.all l h];grind,by lia,λr2 zs H2 s2 Vy hZ=>?_⟩
  .show [V.ref r,V.int (n - 1)]=_;rw[hk]
  have w1:∀ e∈VI ps (List.replicate ps.length (1:Int)),e.2.2=1:=λe he=>by
   unfold VI at he;obtain⟨i,hi⟩:=QG he;rw[Mv]at hi;cases h1:ps[i]? with
   | none=>rw[h1]at hi;cases hi
   | some p =>
    cases h2:(List.replicate ps.length (1:Int))[i]? with
    | none=>rw[h1,h2]at hi;cases hi
    | some w =>
     rw[h1,h2]at hi;obtain rfl:=Yi hi;exact AH (Xi h2)
  have el:(VI ps (List.replicate ps.length (1:Int))).length<=30:=by unfold VI;rw[Od,YK];lia
  have hM:(cutz L (k:Int)).map (λl=>cutz l (k:Int))=(L.take k).map λl=>l.take k:=by rw[cG (by lia)];exact VU λl hl=>cG (by rw[hT.all l (Ig hl)];lia)
  rw[hM]at hZ;have QJ:((L.take k).map λl=>l.take k).length=k:=by rw[Ya,Yj];grind
  have HL:∀ i j,i<k->j<k->fnL ((L.take k).map λl=>l.take k) i j=lapE (VI ps (List.replicate ps.length 1)) i j:=λi j hi hj=>by
   rw[<- hf i j (by grind) (by grind)];obtain⟨l,hl⟩:∃ l,L[i]?=some l:=⟨_,Xu (by grind)⟩;have Vd:=hT.all l (Xi hl)
   obtain⟨x,hx⟩:∃ x,l[j]?=some x:=⟨_,Xu (by grind)⟩;rw[Oo hl hx];exact Oo (l:=l.take k) (by rw[Yn,GK,if_pos hi,hl];rfl) (by rwa[GK,if_pos hj])
  refine⟨r2,false,zs,(L.take k).map λl=>l.take k,rfl,SqL.of Vy,hZ.imp (λ_ _ ⟨r',e,h⟩=>⟨r',false,e,SqL.of h⟩),by rw[QJ];lia,λi j hi hj=>?_,λ_ H3 s3=>?_,λh=>absurd (λl hl=>?_) h⟩
  .rw[QJ]at hi hj;rw[HL i j hi hj];exact Yv (cH w1 i j) (Yv el (Yv (by decide:30<=2 ^ 5) (xK (by decide) (by decide))))
  .have hd:det ((L.take k).map λl=>l.take k).length (fnL ((L.take k).map λl=>l.take k))=det (n - 1).toNat (lapE (VI ps (List.replicate ps.length 1))):=by rw[QJ,show(n - 1).toNat=k by lia];exact Zk λi j hi hj=>HL i j hi hj
   obtain⟨c,M,a1,a2,a3⟩:∃ c,TC n ps c:=by obtain⟨M,a1,a2,_⟩:=zb _ (n - 1).toNat (VI ps (List.replicate ps.length 1)) rfl (DP hG _);exact⟨M.length,M,a1,λl=>by rw[a2,fC g1 YK],rfl⟩
   rw[hd,ZJ9 hG a1 a2,a3];exact q c H3 ⟨M,a1,a2,a3⟩ (s1.trans (s2.trans s3))
  .obtain⟨l0,h0,rfl⟩:=YD.mp hl;rw[QJ,Yj,hT.all l0 (Ig h0)];grind
def mJ(K:Ad)(C:Addr):Sp:=λvs H Q _=>∃(w a b:Addr) (n:Int) (ps:Aa) (Is Os:Ac),vs=[.ref w,.ref a,.ref b]/\WebAt C H w n ps/\Zz n ps/\SqT K H a (IL Is)/\SqT K H b (IL Os)/\Is.Nodup/\(∀ z∈Is,0<=z/\z<(ps.length:Int))/\Os.length<=30/\(∀ z∈Is,z∉Os)/\∀(c:Nat) (H':Hp),PC n ps Is Os c->Same H H'->Q (.int c) H'
theorem mI{K:Ad}{H:Hp}{a b:Addr}{l m:Ac}{Q:VK}(ha:SqT K H a (IL l))(hb:SqT K H b (IL m))(hl:l.length+m.length<=1000)(k:∀(r:Addr) (H':Hp),Same H H'->SqT K H' r (IL (l++m))->Q (.ref r) H'):JJ K (.ref a) (.ref b) H Q:=by
 refine⟨a,b,_,_,rfl,rfl,ha,hb,by rw[XB,XB];exact Yv hl (by decide),λe=>?_,λ_ e=>?_,λ_ _ p hp=>?_⟩
 .have el:l=[]:=GL.mp e;rw[el,Mo]at k;exact k b H (Same.refl _) hb
 .have em:m=[]:=GL.mp e;rw[em,YE]at k;exact k a H (Same.refl _) ha
 .refine k p _ (XZ hp) (SqT.of ?_);rw[XS,zM]
theorem cF{gone:Ac}(j:Nat):XA (j+1) gone=XA j gone++(if ((j:Int)∈gone) then [] else [(j:Int)]):=by
 unfold XA;rw[gm,Rf];congr 1;by_cases c:(j:Int)∈gone
 .rw[if_pos c,YN,if_neg (by simp[c])];rfl
 .rw[if_neg c,YN,if_pos (by simp[c])];rfl
theorem Rp:FnScope ["web","inside","outside","marks","firsts","numbers","gone","free"] ["web","inside","outside"] (XD sZk):=⟨rfl,rfl,rfl,by decide +kernel,rfl,by decide +kernel,by decide +kernel⟩
theorem mH (T:Txt K mg t):FnOk P w K mg base Xg 4 t.aZk t.dZk ["web","inside","outside"] (mJ K t.A_Web):=by
 refine T.fZk.ok Rp (λvs H Q E h=>?_) (λXw A outer s H vs Q E hr h=>?_)
 .obtain⟨w,a,b,n,ps,Is,Os,rfl,_⟩:=h;rfl
 .obtain⟨w,a,b,n,ps,Is,Os,rfl,hW,hG,hA,hB,hIn,Xn,hO,UN,q⟩:=h;refine⟨_,(XO (Zi (i:=3) Rp.nd rfl (Or.inl rfl) (Xy (Rr T) (hr.mono (by decide)) rfl T.mZe T.fZe.kp T.bZe .nil Zu (XY (pv 0) (XY (pv 1) XX))))
   (XO (Zi (i:=4) Rp.nd rfl (Or.inr rfl) (Zg4 K rfl rfl T.n_sorted rfl T.n_set (XY (pv 3) XX)))
   (XO (WD (Zf UC (Zr Uo (Zg (Zl K) (by rfl) T.n_len Boot.«len» (XY (pv 4) XX)) (Zg (Zl K) (by rfl) T.n_len Boot.«len» (XY (pv 1) XX))) (Zo K (pv 0) rfl) (Zt _))
   (XI (Zj XN))
   Zn)
   (XO (Zi (i:=5) Rp.nd rfl (Or.inr rfl) (Vt rfl (sc0:=XD sZk) (N0:=["web","inside","outside","marks","firsts","numbers","gone","free"]) (N':=["mark","firsts"]) (o:=1) (fr:=[4]) ⟨rfl,by decide +kernel,by decide +kernel,by decide +kernel,rfl,by decide +kernel⟩ (ZI K (pv 3)) (Zp (by decide)) (λ_ _ _ _=>(Zc (i:=0) (show List.Nodup (["mark","firsts"]:List Str) by decide +kernel) rfl (Or.inl rfl))) (λ_ _ _ _=>ZU) (λ_ _ _ _=>(Ui K YW PySem.F.slot_list_index PySem.F.type_list_index (Ze8 K) (pv 1) (XY (pv 0) XX)))))
   (XO (Zi (i:=6) Rp.nd rfl (Or.inr rfl) (Zr (JI K) (pv 1) (pv 2)))
   (XO (OE (i:=7) rfl Rp.nd rfl rfl (sc0:=XD sZk) (N0:=["web","inside","outside","marks","firsts","numbers","gone","free"]) (N':=["tie","ends","gone"]) (o:=2) (fr:=[6]) ⟨rfl,by decide +kernel,by decide +kernel,by decide +kernel,rfl,by decide +kernel⟩ (RM K rfl T.n_enumerate (XY (Zo K (pv 0) rfl) XX)) (Fe (OH (by decide) (OH (by decide) Ff))) (λ_ _ _ _=>(PV (n:=2) K rfl (Zv (Zc (i:=0) (show List.Nodup (["tie","ends","gone"]:List Str) by decide +kernel) rfl (Or.inl rfl)) (Zv (Zc (i:=1) (show List.Nodup (["tie","ends","gone"]:List Str) by decide +kernel) rfl (Or.inl rfl)) QY)))) (λ_ _ _ _=>(Wl (Zf (ZC K) (pv 0) (pv 2) rfl))) (λ_ _ _ _=>(pv 1)))
   (XI (Zj (Xy (IV T) (hr.mono (by decide)) rfl T.mZj T.fZj.kp T.bZj .nil Zu (XY (FG T.k_Web (Cm T) (hr.mono (by decide)) rfl T.c_Web T.bZ8 .nil Zu (XY (Zg (Zl K) (by rfl) T.n_len Boot.«len» (XY (pv 4) XX)) (XY (Vt rfl (sc0:=XD sZk) (N0:=["web","inside","outside","marks","firsts","numbers","gone","free"]) (N':=["ends","numbers"]) (o:=1) (fr:=[5]) ⟨rfl,by decide +kernel,by decide +kernel,by decide +kernel,rfl,by decide +kernel⟩ (ZI K (pv 7)) (Zp (by decide)) (λ_ _ _ _=>(Zc (i:=0) (show List.Nodup (["ends","numbers"]:List Str) by decide +kernel) rfl (Or.inl rfl))) (λ_ _ _ _=>ZU) (λ_ _ _ _=>(UB (XY (ZF (Zd K) (pv 1) (ZF (ZJ K) (pv 0) XN (λ_ _=>rfl)) (λ_ _=>rfl)) (XY (ZF (Zd K) (pv 1) (ZF (ZJ K) (pv 0) XN (λ_ _=>rfl)) (λ_ _=>rfl)) XX))))) XX))) XX)))))))))),?_⟩
  obtain⟨g1,g2,g3,g4⟩:=id hG;obtain⟨Js,Oh,hJ2⟩:=sM Is;have hJ:IsSet ps.length Js:=XU.mpr ⟨λz hz=>Xn z (Oh.mem_iff.mp hz),(hJ2.and (Oh.nodup_iff.mpr hIn)).imp λh=>by have:=h.1;have:=h.2;lia⟩
  have hIl:Is.length<=ps.length:=by rw[<- Oh.length_eq];exact hJ.len
  have yN:∀ i j,Conn (XQ ps Js) i j↔Conn (XQ ps Is) i j:=λi j=>Ux λy=>Oh.mem_iff;have hfr:XA ps.length (Js++Os)=XA ps.length (Is++Os):=Ms λz _=>by simp only [Xr,Oh.mem_iff]
  have back:∀ c,PC n ps Js Os c->PC n ps Is Os c:=λc ⟨L,l1,l2,l3⟩=>⟨L,l1,λl=>(l2 l).trans ⟨λh=>⟨h.1,λz hz=>h.2.1 z (Oh.mem_iff.mpr hz),h.2.2⟩,λh=>⟨h.1,λz hz=>h.2.1 z (Oh.mem_iff.mp hz),h.2.2⟩⟩,l3⟩;refine⟨_,rfl,_,rfl,w,a,n,ps,Is,rfl,hW,hG,hA,Xn,λmA H1 s1 QL TK=>?_⟩;have UQ:=ZE n.toNat (XQ ps Is)
  have WC:=ZT (ns:=Is) hG Xn;have hel:(XQ ps Is).length=Is.length:=Ya ..
  refine nm ?_;refine⟨_,rfl,mA,_,rfl,SqL.of TK,by grind,λF hF Vw fA mG=>?_⟩;have s2:=XZ (o:=.lst (IL F)) mG
  have ML:(upd H1 fA (.lst (IL F))) fA=some (.lst (IL F)):=XS;have Wb:=s2 _ _ TK
  have VN:=s1.trans s2;refine nm ?_;dsimp only;generalize upd H1 fA (.lst (IL F))=H2 at *;obtain⟨g,cE,mF,cD⟩:=qp WC hF Vw;obtain⟨k1,kn,nk⟩:=Zr4 WC (by lia) hF Vw;have Tj:=LV VN hA
  have Nq:=LV VN hB;obtain⟨dx,tl,xs,h1,h2,h3⟩:=hW.same VN;have QT:=h3.1
  refine⟨_,rfl,fA,_,rfl,.inl (SqL.of ML),_,rfl,a,_,rfl,.inr Tj,_,_,rfl,rfl,_,rfl,w,_,dx,_,_,rfl,h1,T.cl_Web,T.n_Web_places,JU _ _,_,_,rfl,rfl,_,rfl,?_⟩;rw[XB,XB];refine Xc (λhc=>?_) (λhc=>?_)
  .exact q 0 H2 (back 0 (DD hG hJ (λi j hi hj=>(cE i j hi hj).trans (yN i j).symm) mF cD k1 kn (by rw[Oh.length_eq];lia))) VN
  refine⟨_,rfl,mA,rfl,⟨_,SqL.of Wb⟩,Sr (K:=K) (a:=mA) (xs:=IL (Xs n.toNat (XQ ps Is))) (λi zs H3=>H3=H2/\i<=n.toNat/\zs=IL (((Xs n.toNat (XQ ps Is)).take i).map λz=>(Vg F z:Int))) ⟨rfl,Yk _,rfl⟩ (Zh (by rw[XB,UQ];grind)) (λi zs H3 _ ⟨e,hi,ez⟩=>⟨e ▸ SqL.of Wb,by rw[ez,XB,Ya,Yj];lia⟩) ?_ ?_⟩
  .rintro i v zs H3 hi ⟨rfl,hin3,rfl⟩ S Xq;obtain⟨z,rfl,hz⟩:=ZW hi;have Ho:z∈F:=(Vw z).mpr (Xi hz)
   have Xe:=(Xm.mp hz).1;refine nm ?_;refine⟨_,rfl,.inl ⟨rfl,_,SqL.of ML⟩,_,rfl,fA,F,z,Vg F z,rfl,rfl,SqL.of ML,Jv Ho,λi hi e=>by have:=Hz (JK hF) e (Jv Ho);lia,Xq _ _ ⟨rfl,by lia,?_⟩⟩;rw[YL,hz,YJ];exact(ZK _ _).symm
  rintro zs H3 ⟨rfl,_,rfl⟩ nA mE;rw[XB,YA];have s3:=XZ (o:=.lst (IL ((Xs n.toNat (XQ ps Is)).map λz=>(Vg F z:Int)))) mE
  have mQ:(upd H3 nA (.lst (IL ((Xs n.toNat (XQ ps Is)).map λz=>(Vg F z:Int))))) nA=some (.lst (IL ((Xs n.toNat (XQ ps Is)).map λz=>(Vg F z:Int)))):=XS;have yj:=s3 _ _ ML
  have Ln:=LV s3 Tj;have mD:=LV s3 Nq
  have IU:=VN.trans s3;generalize upd H3 nA (.lst (IL ((Xs n.toNat (XQ ps Is)).map λz=>(Vg F z:Int))))=H4 at *;have cC:∀ x:Int,0<=x->x<n->((Xs n.toNat (XQ ps Is)).map λz=>(Vg F z:Int))[x.toNat]?=some (Vg F (mk (Xs n.toNat (XQ ps Is)) x.toNat):Int):=λx x0 x1=>by rw[Yn,Xu (by grind)];unfold mk;rw[WO,Xu (by grind)];rfl
  refine nm ?_;dsimp only;refine⟨_,rfl,_,rfl,mI Ln mD (by lia) λgA H5 s5 hg5=>?_⟩;have Cb:=IU.trans s5
  obtain⟨dx,tl,xs,h1,h2,h3⟩:=hW.same Cb;have QT:=h3.1
  refine nm ?_;dsimp only;refine⟨_,rfl,w,_,dx,_,_,rfl,h1,T.cl_Web,T.n_Web_ties,Oz _ _,tl,rfl,⟨_,SqL.of h2⟩,Np (K:=K) (a:=tl) (xs:=xs) (λj zs H6=>Same H5 H6/\j<=ps.length/\PairsV H6 zs ((XA j (Is++Os)).map λz=>ps.getD z.toNat (0,0))) ⟨Same.refl _,Yk _,PairsV.nil⟩ (Zh (by lia)) (λj zs H6 hj ⟨e,SK,ez⟩=>⟨e.seq (SqL.of h2),by rw[ez.1,Ya];refine Yv (YF ..) ?_;rw[ZR];exact XJ _⟩) ?_ ?_⟩
  .rintro j v zs H6 pt SG hj ⟨s6,Ow,hZ⟩ S Xq;obtain⟨p,hp,tt,rfl,ht⟩:=h3.at hj;have WT:=(Xm.mp hp).1
   have s7:=XZ (o:=.tup [.int j,.ref tt]) SG;refine⟨pt,_,rfl,SqT.of XS,rfl,_,_,rfl,_,_,rfl,rfl,?_⟩;have Ca:=hZ.same s7
   have Tw:=s6.trans s7;generalize upd H6 pt (.tup [.int j,.ref tt])=H7 at *;refine⟨_,rfl,_,rfl,gA,_,rfl,.inr (LV Tw hg5),rfl,Zq _,_,rfl,?_⟩;rw[Zy];refine WX (λIT=>?_) (λIT=>?_)
   .refine Xq _ _ ⟨Tw,WT,?_⟩;rwa[cF,if_pos IT,YE]
   .refine⟨_,rfl,Xq _ _ ⟨Tw,WT,?_⟩⟩;rw[cF,if_neg IT,YJ];refine Ca.app ?_;show PairsV H7 [V.ref tt] [ps.getD ((j:Nat):Int).toNat (0,0)]
    rw[YH,We hp];exact PairsV.nil.snoc ⟨tt,rfl,Tw _ _ ht⟩
  rintro zs H6 ⟨s6,_,hZ⟩ rA SF;rw[QT]at hZ;have s7:=XZ (o:=.lst zs) SF
  have Cp:(upd H6 rA (.lst zs)) rA=some (.lst zs):=XS;have Ca:=hZ.same s7
  have Tw:=s6.trans s7;generalize upd H6 rA (.lst zs)=H7 at *;have hf7:=Tw _ _ (s5 _ _ yj)
  have hn7:=Tw _ _ (s5 _ _ mQ);have mC:=Ca.1
  have OG:(XA ps.length (Is++Os)).length<=30:=by refine Yv (YF ..) ?_;rw[ZR];lia
  rw[Ya]at mC;refine nm ?_;dsimp only;refine⟨_,rfl,fA,_,rfl,.inl (SqL.of hf7),_,rfl,rA,rfl,⟨_,SqL.of Cp⟩,Sr (K:=K) (a:=rA) (xs:=zs) (λi ws H8=>Same H7 H8/\i<=(XA ps.length (Is++Os)).length/\PairsV H8 ws (((XA ps.length (Is++Os)).take i).map λz=>((Vg F (mk (Xs n.toNat (XQ ps Is)) (Zx ps z).1):Int),(Vg F (mk (Xs n.toNat (XQ ps Is)) (Zx ps z).2):Int)))) ⟨Same.refl _,Yk _,PairsV.nil⟩ (Zh (by lia))
   (λi ws H8 hi ⟨e,VO,ew⟩=>⟨e.seq (SqL.of Cp),by rw[ew.1,Ya,Yj];lia⟩) ?_ ?_⟩
  .rintro i v ws H8 hi ⟨s8,Vh,yi⟩ S Xq;obtain⟨p,hp,tt,rfl,ht⟩:=Ca.at hi;rw[Yn]at hp;obtain⟨z,hz,ez⟩:∃ z,(XA ps.length (Is++Os))[i]?=some z/\ps.getD z.toNat (0,0)=p:=by
    cases hq:(XA ps.length (Is++Os))[i]? with
    | none=>rw[hq]at hp;cases hp
    | some z=>rw[hq]at hp;exact⟨z,rfl,Yi hp⟩
   have hz1:=(WV.mp (Xi hz)).1;obtain⟨p',IX⟩:∃ p,ps[z.toNat]?=some p:=⟨_,Xu (by lia)⟩;have epp:p'=p:=by rw[<- ez,We IX]
   rw[epp]at IX;obtain⟨e1,e2,e3,e4⟩:=g4 p (Xi IX);have ee:Zx ps z=(p.1.toNat,p.2.toNat):=by unfold Zx;rw[We IX]
   have cB:=s8 _ _ ht;have cz:=s8 _ _ hn7
   refine nm ?_;refine⟨_,rfl,_,rfl,tt,_,0,.int p.1,rfl,rfl,SqT.of cB,rfl,nA,_,_,_,rfl,rfl,SqL.of cz,ZB (n:=p.1.toNat) (by lia) (WI (cC p.1 e1 e2)),?_⟩;refine⟨_,rfl,_,rfl,tt,_,1,.int p.2,rfl,rfl,SqT.of cB,rfl,nA,_,_,_,rfl,rfl,SqL.of cz,ZB (n:=p.2.toNat) (by lia) (WI (cC p.2 e3 e4)),(by show 2<=sizeLine;decide),λpp QI=>?_⟩;refine Xq _ _ ⟨s8.trans (XZ QI),by have:=(Xm.mp hz).1;lia,?_⟩;rw[YL,hz,YJ];refine(yi.same (XZ QI)).snoc ⟨pp,rfl,?_⟩;dsimp only;rw[ee];exact XS
  rintro ws H8 ⟨s8,_,yi⟩ la nB;rw[mC,YA]at yi;have s9:=XZ (o:=.lst ws) nB
  have MK:(upd H8 la (.lst ws)) la=some (.lst ws):=XS;have mB:=yi.same s9
  have yh:=s8.trans s9;generalize upd H8 la (.lst ws)=H9 at *;have cy:=eX (f:=λi=>Vg F (mk (Xs n.toNat (XQ ps Is)) i)) hG (Is++Os) mF k1 kn
  intro x mz nx Og MJ;have t1:Same H9 (upd (upd H9 mz (.own x)) x (.ins t.A_Web mz [])):=Zs (XZ Og) (by rwa[Za (XG MJ)])
  refine⟨x,mz,(F.length:Int),la,false,ws,_,by rw[XB];rfl,XS,λo=>?_,mB.same t1,cy,λQH hV yg=>⟨rfl,?_⟩⟩
  .exact SqL.of (by rwa[Za (Zb MK nx),Za (Zb MK nx),Za (Zb MK Og)])
  have Ud:Same H9 QH:=λb o e=>yg b o (t1 b o e) (Zb e nx);refine⟨x,_,_,rfl,hV,cy,λc Pg hc Te=>q c Pg (back c (qu hG hJ (λz hz=>UN z (Oh.mem_iff.mp hz)) (λi j hi hj=>(cE i j hi hj).trans (yN i j).symm) mF cD (by rw[Oh.length_eq];grind) (by rwa[hfr]))) (Cb.trans (Tw.trans (yh.trans (Ud.trans Te))))⟩
def my(K:Ad)(C:Addr):Sp:=λvs H Q _=>∃(w a:Addr) (n:Int) (ps:Aa) (kd:Bool) (ns:Ac),vs=[.ref w,.ref a]/\WebAt C H w n ps/\Zz n ps/\SqK kd K H a (IL ns) /\
 ∀(b:Bool) (H':Hp),Same H H'->(b=true↔Ze n ps ns)->Q (.bl b) H'
theorem mx:FnScope ["web","ties"] ["web","ties"] (XD sZl):=⟨rfl,rfl,rfl,by decide +kernel,rfl,by decide +kernel,by decide +kernel⟩
theorem IS (T:Txt K mg t):FnOk P w K mg base Xg 6 t.aZl t.dZl ["web","ties"] (my K t.A_Web):=by
 refine T.fZl.ok mx (λvs H Q E h=>?_) (λXw A outer s H vs Q E hr h=>?_)
 .obtain⟨w,a,n,ps,kd,ns,rfl,_⟩:=h;rfl
 .obtain⟨w,a,n,ps,kd,ns,rfl,hW,hG,hS,q⟩:=h;refine⟨_,(XI (Zj (NM (Xy (Cj T) (hr.mono (by decide)) rfl T.mZb T.fZb.kp T.bZb .nil Zu (XY (pv 0) (XY (pv 1) XX))) (NM (NG VD (Zg (Zl K) (by rfl) T.n_len Boot.«len» (XY (pv 1) XX)) (Zr VS (Zo K (pv 0) rfl) XN) (Zt _)) (NN (Xy (mZ T) (hr.mono (by decide)) rfl T.mZg T.fZg.kp T.bZg .nil Zu (XY (pv 0) (XY (pv 1) XX)))))))),?_⟩;refine⟨_,rfl,_,rfl,w,a,n,ps,kd,ns,rfl,hW,hS,λb hb=>⟨b,rfl,?_⟩⟩;refine gR (λe=>?_) (λe=>?_)
  .have hI:=hb.mp e;obtain⟨dx,tl,xs,h1,h2,h3⟩:=id hW;refine⟨_,rfl,a,_,rfl,hS.or,_,rfl,w,_,dx,_,_,rfl,h1,T.cl_Web,T.n_Web_places,JU _ _,_,_,rfl,rfl,rfl,_,rfl,?_⟩;rw[XB,ZD];refine Xc (λhl=>?_) (λhl=>?_)
   .refine⟨_,rfl,_,rfl,w,a,n,ps,kd,ns,rfl,hW,hG,hS,hI,λb2 H' s QO=>q b2 H' s ?_⟩;rw[QO,td (by have:=hG.1;grind) (ZT hG hI.all)];exact⟨λz=>⟨hI,hl,z⟩,λz=>z.2.2⟩
   .exact q false H (Same.refl H) ⟨λz=>(nomatch z),λz=>absurd z.2.1 hl⟩
  .exact q false H (Same.refl H) ⟨λz=>(nomatch z),λz=>by rw[hb.mpr z.1]at e;cases e⟩
def mw(K:Ad)(C:Addr):Sp:=λvs H Q _=>∃(w a:Addr) (n:Int) (ps:Aa) (kd:Bool) (ns:Ac),vs=[.ref w,.ref a]/\WebAt C H w n ps/\Zz n ps/\SqK kd K H a (IL ns) /\
 (Ze n ps ns->∀ H':Hp,Same H H'->Q .non H')/\(¬ Ze n ps ns->∀ H':Hp,Same H H'->False)
theorem mv:FnScope ["web","tree"] ["web","tree"] (XD sZm):=⟨rfl,rfl,rfl,by decide +kernel,rfl,by decide +kernel,by decide +kernel⟩
theorem Us (T:Txt K mg t):FnOk P w K mg base Xg 7 t.aZm t.dZm ["web","tree"] (mw K t.A_Web):=by
 refine T.fZm.ok mv (λvs H Q E h=>?_) (λXw A outer s H vs Q E hr h=>?_)
 .obtain⟨w,a,n,ps,kd,ns,rfl,_⟩:=h;rfl
 .obtain⟨w,a,n,ps,kd,ns,rfl,hW,hG,hS,q,qe⟩:=h;refine⟨_,(XI (WD (OM (Qr (Xy (IS T) (hr.mono (by decide)) rfl T.mZl T.fZl.kp T.bZl .nil Zu (XY (pv 0) (XY (pv 1) XX)))))
   (XI ZV)
   Zn)),?_⟩
  refine⟨_,rfl,_,rfl,w,a,n,ps,kd,ns,rfl,hW,hG,hS,λb H' s hb=>⟨_,rfl,?_⟩⟩;refine EW (λz=>?_) (λz=>?_)
  .exact q (hb.mp z) H' s
  .exact qe (λg=>by rw[hb.mpr g]at z;cases z) H' s
def mr(K:Ad)(C:Addr):Sp:=λvs H Q _=>∃(w a b:Addr) (n:Int) (ps:Aa) (ka kb:Bool) (ns os:Ac),vs=[.ref w,.ref a,.ref b]/\WebAt C H w n ps/\Zz n ps/\SqK ka K H a (IL ns)/\SqK kb K H b (IL os)/\ns.length<=1000/\os.length<=1000/\(∀ z∈ns++os,0<=z/\z<(ps.length:Int)) /\
 (((WS n.toNat ps (ns++os)).take ns.length≠ns\/((WS n.toNat ps (ns++os)).length:Int)<n - 1)->∀ H':Hp,Same H H'->Q .non H') /\
 ((WS n.toNat ps (ns++os)).take ns.length=ns->¬ ((WS n.toNat ps (ns++os)).length:Int)<n - 1->∀(r:Addr) (ms:Ac) (H':Hp),ms.Perm (WS n.toNat ps (ns++os))->ms.Pairwise (·<=·)->Same H H'->H r=none->H' r=some (.tup (IL ms))->Q (.ref r) H')
theorem Ro:FnScope ["web","inside","order","marks","grown","tie","ends"] ["web","inside","order"] (XD sZn):=⟨rfl,rfl,rfl,by decide +kernel,rfl,by decide +kernel,by decide +kernel⟩
theorem mq (T:Txt K mg t):FnOk P w K mg base Xg 3 t.aZn t.dZn ["web","inside","order"] (mr K t.A_Web):=by
 refine T.fZn.ok Ro (λvs H Q E h=>?_) (λXw A outer s H vs Q E hr h=>?_)
 .obtain⟨w,a,b,n,ps,ka,kb,ns,os,rfl,_⟩:=h;rfl
 .obtain⟨w,a,b,n,ps,ka,kb,ns,os,rfl,hW,hG,hS,EE,cx,QV,hI,q0,q1⟩:=h;refine⟨_,(XO (Zi (i:=3) Ro.nd rfl (Or.inl rfl) (Xy (Rr T) (hr.mono (by decide)) rfl T.mZe T.fZe.kp T.bZe .nil Zu (XY (pv 0) (XY (UB XX) XX))))
   (XO (Zi (i:=4) Ro.nd rfl (Or.inl rfl) (UA XX))
   (XO (Vb YQ rfl (ZI K (Zr Fo (Zm (Hy K) (by rfl) T.n_list Boot.«list» (XY (pv 1) XX)) (Zm (Hy K) (by rfl) T.n_list Boot.«list» (XY (pv 2) XX)))) (Zc (i:=5) Ro.nd rfl (Or.inl rfl))
   (XO (Zi (i:=6) Ro.nd rfl (Or.inl rfl) (ZF (Zd K) (Zo K (pv 0) rfl) (pv 5) (λ_ _=>rfl)))
   (XI (WD (Zf Wo (ZF (Zd K) (pv 3) (ZF (ZJ K) (pv 6) XN (λ_ _=>rfl)) (λ_ _=>rfl)) (ZF (Zd K) (pv 3) (ZF (ZJ K) (pv 6) XN (λ_ _=>rfl)) (λ_ _=>rfl)) (Zt _))
   (XO (Zi (i:=3) Ro.nd rfl (Or.inl rfl) (Xy (Ci T) (hr.mono (by decide)) rfl T.mZd T.fZd.kp T.bZd .nil Zu (XY (pv 0) (XY (pv 3) (XY (UB (XY (pv 5) XX)) XX)))))
   (XI (ZN (Ui K YW Mw Mz LZ (pv 4) (XY (pv 5) XX)))))
   Zn))))
   (XO (WD (PW.pt (Sv (Zf (EO K (t8 hr)) (ZY (Vl K) (pv 4) Qj (RR (Zg (Zl K) (by rfl) T.n_len Boot.«len» (XY (pv 1) XX)))) (Zm (Hy K) (by rfl) T.n_list Boot.«list» (XY (pv 1) XX)) (Zt _)) (Qq (Zf SW (Zg (Zl K) (by rfl) T.n_len Boot.«len» (XY (pv 4) XX)) (Zr VS (Zo K (pv 0) rfl) XN) (Zt _)))))
   (XI (Zj NO))
   Zn)
   (XI (Zj (Zm (ZG K) (by rfl) T.n_tuple Boot.«tuple» (XY (Zg (zz K) (by rfl) T.n_sorted Boot.«sorted» (XY (pv 4) XX)) XX)))))))),?_⟩
  obtain⟨g1,g2,g3,g4⟩:=id hG;have one:1<=sizeLine:=by decide
  refine⟨_,rfl,Yk _,λr0 Vf=>?_⟩;have s0:=XZ (o:=.tup []) Vf
  refine⟨w,r0,n,ps,[],rfl,hW.same s0,hG,SqT.of XS,λ_ e=>(nomatch e),λm H1 s1 QL TK=>?_⟩;have cu:=s0.trans s1
  have hmf:=s0.free QL;refine⟨Yk _,λgl mj=>?_⟩;have s2:=XZ (o:=.lst []) mj
  have VN:=cu.trans s2;have hgf:=cu.free mj
  refine⟨_,rfl,a,_,rfl,(hS.same VN).or,λl1 Tx=>?_⟩;have s3:=XZ (o:=.lst (IL ns)) Tx
  have GW:=VN.trans s3;refine⟨_,rfl,b,_,rfl,(EE.same GW).or,λl2 Su=>?_⟩;have s4:=XZ (o:=.lst (IL os)) Su
  have IU:=GW.trans s4;refine⟨l1,l2,_,_,rfl,rfl,s4 _ _ XS,XS,OA (by rw[XB,XB];lia),λcl Pw=>?_⟩;have s5:=XZ (o:=.lst (IL ns++IL os)) Pw
  have Cb:=IU.trans s5;have eI:IL ns++IL os=IL (ns++os):=(zM _ _).symm
  have BZ:=s5 _ _ (s4 _ _ (s3 _ _ (XS (H:=H1) (a:=gl) (o:=.lst []))));have yf:=s5 _ _ (s4 _ _ (s3 _ _ (s2 _ _ TK)))
  have IQ:=XS (H:=upd (upd (upd H1 gl (.lst [])) l1 (.lst (IL ns))) l2 (.lst (IL os))) (a:=cl) (o:=.lst (IL ns++IL os));have ncg:cl≠gl:=λe=>by rw[e]at Pw;exact absurd ((s4 _ _ (s3 _ _ (XS (H:=H1) (a:=gl) (o:=.lst [])))).symm.trans Pw) (by simp)
  have nmg:m≠gl:=λe=>by rw[e]at TK;exact absurd (TK.symm.trans mj) (by simp)
  rw[eI]at s5 Cb BZ yf IQ ⊢;generalize upd (upd (upd (upd H1 gl (.lst [])) l1 (.lst (IL ns))) l2 (.lst (IL os))) cl (.lst (IL (ns++os)))=H5 at *;refine⟨cl,rfl,⟨_,SqL.of IQ⟩,HJ (K:=K) (a:=cl) (xs:=IL (ns++os)) (λi σ H2=>∃(mc:Addr) (v5 v6:Option V),σ=[some (.ref w),some (.ref a),some (.ref b),some (.ref mc),some (.ref gl),v5,v6]/\Same H H2/\mc≠gl /\
    H2 cl=some (.lst (IL (ns++os)))/\H2 mc=some (.lst (IL (Xs n.toNat (XQ ps (WS n.toNat ps ((ns++os).take i))))))/\H2 gl=some (.lst (IL (WS n.toNat ps ((ns++os).take i)))))
   ⟨m,none,none,rfl,Cb,nmg,IQ,yf,BZ⟩ (λi σ H2 _ ⟨_,_,_,_,_,_,e,_⟩=>SqL.of e) ?_ ?_⟩
  .rintro i x σ H2 hi ⟨mc,v5,v6,rfl,s2,XH,VL,Wb,MW⟩;obtain⟨z,rfl,hz⟩:=ZW hi;obtain⟨z0,z1⟩:=hI z (Xi hz);have cq:∀ y∈(ns++os).take i,0<=y/\y<(ps.length:Int):=λy hy=>hI y (Ig hy)
   have est:(ns++os).take (i+1)=(ns++os).take i++[z]:=by rw[YL,hz];rfl
   have eG:WS n.toNat ps ((ns++os).take (i+1))=RI n.toNat ps (WS n.toNat ps ((ns++os).take i)) z:=by rw[est,LN]
   have WC:=Hq hG cq;have BY:=gr hG cq
   generalize WS n.toNat ps ((ns++os).take i)=G at *;obtain⟨dx,tl,xs,h1,h2,h3⟩:=hW.same s2;obtain⟨p,hp⟩:∃ p,ps[z.toNat]?=some p:=⟨_,Xu (by lia)⟩;obtain⟨v,hv,tt,rfl,UR⟩:=h3.2 z.toNat p hp;obtain⟨e1,e2,e3,e4⟩:=g4 p (Xi hp);have ed:Zx ps z=(p.1.toNat,p.2.toNat):=by unfold Zx;rw[We hp]
   have hl:(Xs n.toNat (XQ ps G)).length=n.toNat:=ZE _ _;have iA:Ws (IL (Xs n.toNat (XQ ps G))) p.1=some (.int (mk (Xs n.toNat (XQ ps G)) p.1.toNat)):=ZB (n:=p.1.toNat) (by lia) (WI (Ox (by grind)))
   have iB:Ws (IL (Xs n.toNat (XQ ps G))) p.2=some (.int (mk (Xs n.toNat (XQ ps G)) p.2.toNat)):=ZB (n:=p.2.toNat) (by lia) (WI (Ox (by grind)));have t0:Ws ([.int p.1,.int p.2]:List V) 0=some (.int p.1):=rfl
   have t1:Ws ([.int p.1,.int p.2]:List V) 1=some (.int p.2):=rfl;have key:mk (Xs n.toNat (XQ ps G)) p.1.toNat=mk (Xs n.toNat (XQ ps G)) p.2.toNat↔mk (WH n.toNat (XQ ps G)) (Zx ps z).1=mk (WH n.toNat (XQ ps G)) (Zx ps z).2:=by rw[ed,RL WC (by grind) (by grind),Wi WC (by grind) (by grind)]
   refine⟨_,rfl,w,_,dx,_,_,rfl,h1,T.cl_Web,T.n_Web_ties,Oz _ _,_,rfl,tl,xs,z,.ref tt,rfl,rfl,SqL.of h2,ZB (n:=z.toNat) (by lia) hv,?_⟩;refine⟨_,rfl,_,rfl,tt,_,0,_,rfl,rfl,SqT.of UR,t0,mc,_,p.1,_,rfl,rfl,SqL.of Wb,iA,_,rfl,_,rfl,tt,_,1,_,rfl,rfl,SqT.of UR,t1,mc,_,p.2,_,rfl,rfl,SqL.of Wb,iB,rfl,_,rfl,?_⟩;rw[ZD];refine WX (λhe=>?_) (λhe=>?_)
   .refine⟨mc,_,_,rfl,s2,XH,VL,?_,?_⟩
    .rw[eG];unfold RI;rwa[if_pos (key.mp he)]
    .rw[eG];unfold RI;rwa[if_pos (key.mp he)]
   .have cn:WS n.toNat ps ((ns++os).take (i+1))=G++[z]:=by rw[eG];unfold RI;rw[if_neg (λe=>he (key.mpr e))]
    refine⟨_,rfl,_,rfl,_,rfl,one,λp2 Wg=>?_⟩;have s6:=XZ (o:=.tup [.int z]) Wg
    refine⟨w,mc,p2,n,ps,_,true,[z],rfl,(hW.same s2).same s6,hG,s6 _ _ Wb,hl,SqT.of XS,λy hy=>by rw[XC.mp hy];exact⟨z0,z1⟩,λm' H7 s7 hf ye=>?_⟩;have mi:=s6.trans s7
    have cm:=mi _ _ MW;have hc7:=mi _ _ VL
    have cg:m'≠gl:=by
     rcases hf with rfl | hf
     .exact XH
     .exact λe=>absurd ((s6 _ _ MW).symm.trans (e ▸ hf)) (by simp)
    refine⟨_,rfl,.inl ⟨rfl,_,SqL.of cm⟩,_,rfl,gl,_,_,rfl,rfl,cm,Zh (by rw[XB];lia),?_⟩;refine⟨m',_,_,rfl,ZA hgf (s2.trans mi),cg,?_,?_,?_⟩
    .rw[Za ncg];exact hc7
    .rw[Za cg,ye,cn,JH,EJ];rfl
    .rw[XS,cn,ZK]
  .rintro σ H2 ⟨mc,v5,v6,rfl,s2,XH,VL,Wb,MW⟩;rw[XB,YA]at MW;have BY:=gr hG hI
   generalize WS n.toNat ps (ns++os)=G at *;refine⟨_,rfl,_,rfl,a,_,rfl,(hS.same s2).or,_,rfl,gl,_,rfl,SqL.of MW,λr1 VH=>?_⟩;have ec:Xh (IL G) none (some ((IL ns).length:Int))=IL (G.take ns.length):=by rw[gu (by lia),YH,XB,gS]
   rw[ec];have s3:=XZ (o:=.lst (IL (G.take ns.length))) VH
   refine⟨_,rfl,a,_,rfl,(hS.same (s2.trans s3)).or,λr2 Vy=>?_⟩;have s4:=XZ (o:=.lst (IL ns)) Vy
   refine⟨1,_,r1,r2,rfl,rfl,by decide,gJ (SqL.of (s4 _ _ XS)) (SqL.of XS),_,rfl,?_⟩;have Lm:=s2.trans (s3.trans s4)
   refine WX (λhe=>?_) (λhe=>?_)
   .obtain⟨dx,tl,xs,h1,h2,h3⟩:=hW.same Lm;have cf:=s4 _ _ (s3 _ _ MW)
    refine⟨_,rfl,gl,_,rfl,.inl (SqL.of cf),_,rfl,w,_,dx,_,_,rfl,h1,T.cl_Web,T.n_Web_places,JU _ _,_,_,rfl,rfl,_,_,rfl,rfl,_,rfl,?_⟩;rw[XB];refine Xc (λhc=>?_) (λhc=>?_)
    .exact q0 (.inr hc) _ Lm
    .refine⟨_,rfl,gl,G,rfl,SqL.of cf,by lia,λms Vx Wg l hl=>?_⟩;have s5:=XZ (o:=.lst (IL ms)) hl
     refine⟨l,_,rfl,.inl ⟨SqL.of XS,λr hr=>?_⟩⟩;exact q1 he hc r ms _ Vx Wg ((Lm.trans s5).trans (XZ hr)) ((Lm.trans s5).free hr) XS
   .refine Wf ?_;exact q0 (.inl he) _ Lm
def mh(K:Ad)(C:Addr):Sp:=λvs H Q _=>∃(w a:Addr) (n:Int) (ps:Aa) (kd:Bool) (ns:Ac) (z:Int),vs=[.ref w,.ref a,.int z]/\WebAt C H w n ps/\Zz n ps/\SqK kd K H a (IL ns)/\IsSet ps.length ns /\
 ∀(r:Addr) (H':Hp),Same H H'->H r=none->H' r=some (.tup (IL (unlike (WH n.toNat (XQ ps (wo ns z))) ps ps.length)))->Q (.ref r) H'
theorem BX:FnScope ["web","tree","tie","marks"] ["web","tree","tie"] (XD sZo):=⟨rfl,rfl,rfl,by decide +kernel,rfl,by decide +kernel,by decide +kernel⟩
theorem IP (T:Txt K mg t):FnOk P w K mg base Xg 3 t.aZo t.dZo ["web","tree","tie"] (mh K t.A_Web):=by
 refine T.fZo.ok BX (λvs H Q E h=>?_) (λXw A outer s H vs Q E hr h=>?_)
 .obtain⟨w,a,n,ps,kd,ns,z,rfl,_⟩:=h;rfl
 .obtain⟨w,a,n,ps,kd,ns,z,rfl,hW,hG,hS,hI,q⟩:=h;refine⟨_,(XO (Zi (i:=3) BX.nd rfl (Or.inr rfl) (Xy (Rr T) (hr.mono (by decide)) rfl T.mZe T.fZe.kp T.bZe .nil Zu (XY (pv 0) (XY (Xy (IY T) (hr.mono (by decide)) rfl T.mZa T.fZa.kp T.bZa .nil Zu (XY (pv 1) (XY (pv 2) XX))) XX))))
   (XI (Zj (Zm (ZG K) (by rfl) T.n_tuple Boot.«tuple» (XY (Vt rfl (sc0:=XD sZo) (N0:=["web","tree","tie","marks"]) (N':=["number","ends","marks"]) (o:=2) (fr:=[3]) ⟨rfl,by decide +kernel,by decide +kernel,by decide +kernel,rfl,by decide +kernel⟩ (RM K rfl T.n_enumerate (XY (Zo K (pv 0) rfl) XX)) (Fe (OH (by decide) (OH (by decide) Ff))) (λ_ _ _ _=>(PV (n:=2) K rfl (Zv (Zc (i:=0) (show List.Nodup (["number","ends","marks"]:List Str) by decide +kernel) rfl (Or.inl rfl)) (Zv (Zc (i:=1) (show List.Nodup (["number","ends","marks"]:List Str) by decide +kernel) rfl (Or.inl rfl)) QY)))) (λ_ _ _ _=>(Wl (Zf Wo (ZF (Zd K) (pv 2) (ZF (ZJ K) (pv 1) XN (λ_ _=>rfl)) (λ_ _=>rfl)) (ZF (Zd K) (pv 2) (ZF (ZJ K) (pv 1) XN (λ_ _=>rfl)) (λ_ _=>rfl)) (Zt _)))) (λ_ _ _ _=>(pv 0))) XX))))),?_⟩
  obtain⟨g1,g2,g3,g4⟩:=id hG;have hln:=hI.len
  have hb:∀ y∈wo ns z,0<=y/\y<(ps.length:Int):=λy hy=>hI.all y (Xo.mp hy).1;refine⟨_,rfl,_,rfl,_,rfl,a,kd,ns,z,rfl,hS,by lia,λr1 H1 s1 Vf VH=>?_⟩;refine⟨w,r1,n,ps,wo ns z,rfl,hW.same s1,hG,SqT.of VH,hb,λm H2 s2 QL Wb=>?_⟩;have WC:=ZT hG hb
  have e0:=ZD5 (M:=Xs n.toNat (XQ ps (wo ns z))) hG (ZE _ _) (zD WC);have hl:(Xs n.toNat (XQ ps (wo ns z))).length=n.toNat:=ZE _ _
  rw[<- e0]at q;generalize Xs n.toNat (XQ ps (wo ns z))=M at *;have WR:=s1.trans s2
  obtain⟨dx,tl,xs,h1,h2,h3⟩:=hW.same WR;have QT:=h3.1
  refine⟨_,rfl,w,_,dx,_,_,rfl,h1,T.cl_Web,T.n_Web_ties,Oz _ _,tl,rfl,⟨_,SqL.of h2⟩,Np (K:=K) (a:=tl) (xs:=xs) (λi ys H3=>Same H2 H3/\i<=xs.length/\ys=IL (unlike M ps i)) ⟨Same.refl _,Yk _,rfl⟩ (Zh (by lia))
   (λi ys H3 _ ⟨e,_,ey⟩=>⟨SqL.of (e _ _ h2),by rw[ey,XB];exact Zd6 _ _ _⟩) ?_ ?_⟩
  .rintro i x ys H3 pt SG hi ⟨s3,Vh,rfl⟩ S Xq;obtain⟨p,PR,tt,rfl,UR⟩:=h3.at hi;obtain⟨e1,e2,e3,e4⟩:=g4 p (Xi PR);have Xf:i<xs.length:=(Xm.mp hi).1
   have s4:Same H3 (upd H3 pt (.tup [.int i,.ref tt])):=XZ SG;have Sg:=s3.trans s4
   have Pf:=Sg _ _ UR;have BW:=Sg _ _ Wb
   have ed:ps.getD i (0,0)=p:=We PR;have t0:Ws ([.int p.1,.int p.2]:List V) 0=some (.int p.1):=rfl
   have t1:Ws ([.int p.1,.int p.2]:List V) 1=some (.int p.2):=rfl;have iA:Ws (IL M) p.1=some (.int (mk M p.1.toNat)):=ZB (n:=p.1.toNat) (by lia) (WI (Ox (by grind)))
   have iB:Ws (IL M) p.2=some (.int (mk M p.2.toNat)):=ZB (n:=p.2.toNat) (by lia) (WI (Ox (by grind)));refine⟨pt,_,rfl,SqT.of XS,rfl,_,_,rfl,_,_,rfl,rfl,?_⟩;refine⟨_,rfl,_,rfl,tt,_,0,_,rfl,rfl,SqT.of Pf,t0,m,_,p.1,_,rfl,rfl,SqL.of BW,iA,_,rfl,_,rfl,tt,_,1,_,rfl,rfl,SqT.of Pf,t1,m,_,p.2,_,rfl,rfl,SqL.of BW,iB,rfl,_,rfl,?_⟩;rw[ZD];refine WX (λhe=>?_) (λhe=>?_)
   .refine Xq _ _ ⟨Sg,Xf,?_⟩;rw[EC,ed,if_neg (by simpa using he),YE]
   .refine⟨_,rfl,Xq _ _ ⟨Sg,Xf,?_⟩⟩;rw[EC,ed,if_pos he,ZK]
  .rintro ys H3 ⟨s3,_,rfl⟩ p hp;rw[QT];refine⟨p,_,rfl,.inl ⟨SqL.of XS,λr hr=>?_⟩⟩;exact q r _ (WR.trans (s3.trans (Zs (XZ hp) hr))) ((WR.trans (s3.trans (XZ hp))).free hr) XS
def mf(K:Ad)(C:Addr):Sp:=λvs H Q _=>∃(w a:Addr) (n:Int) (ps:Aa) (kd:Bool) (ns:Ac) (z:Int),vs=[.ref w,.ref a,.int z]/\WebAt C H w n ps/\Zz n ps/\SqK kd K H a (IL ns)/\-(10 ^ 70)<z/\z<10 ^ 70 /\
 (Ze n ps ns->z∉ns->0<=z->z<(ps.length:Int)->∀(ms:Ac),ms.Perm (UW n ps ns z ns++[z])->ms.Pairwise (·<=·)->∀(r:Addr) (H':Hp),Same H H'->H r=none->H' r=some (.tup (IL ms))->Q (.ref r) H') /\
 (Ze n ps ns->(z∈ns\/¬ (0<=z/\z<(ps.length:Int)))->∀ H':Hp,Same H H'->False)/\(¬ Ze n ps ns->∀ H':Hp,Same H H'->False)
theorem me:FnScope ["web","tree","tie"] ["web","tree","tie"] (XD sZp):=⟨rfl,rfl,rfl,by decide +kernel,rfl,by decide +kernel,by decide +kernel⟩
theorem IM (T:Txt K mg t):FnOk P w K mg base Xg 8 t.aZp t.dZp ["web","tree","tie"] (mf K t.A_Web):=by
 refine T.fZp.ok me (λvs H Q E h=>?_) (λXw A outer s H vs Q E hr h=>?_)
 .obtain⟨w,a,n,ps,kd,ns,z,rfl,_⟩:=h;rfl
 .obtain⟨w,a,n,ps,kd,ns,z,rfl,hW,hG,hS,z0,z1,q,q1,q2⟩:=h;refine⟨_,(XO (ZN (Xy (Us T) (hr.mono (by decide)) rfl T.mZm T.fZm.kp T.bZm .nil Zu (XY (pv 0) (XY (pv 1) XX))))
   (XO (WD (PW.pt (Sv (Zf (JR K) (pv 2) (pv 1) rfl) (Qq (OM (Qr (Xy (Cn T) (hr.mono (by decide)) rfl T.mZ6 T.fZ6.kp T.bZ6 .nil Zu (XY (pv 0) (XY (pv 2) XX))))))))
   (XI ZV)
   Zn)
   (XI (Zj (Zm (ZG K) (by rfl) T.n_tuple Boot.«tuple» (XY (Zg (zz K) (by rfl) T.n_sorted Boot.«sorted» (XY (Zr Fo (Vt rfl (sc0:=XD sZp) (N0:=["web","tree","tie"]) (N':=["out","tie","web","tree"]) (o:=1) (fr:=[2,0,1]) ⟨rfl,by decide +kernel,by decide +kernel,by decide +kernel,rfl,by decide +kernel⟩ (PX K (pv 1)) (Zp (by decide)) (λ_ _ _ _=>(Zc (i:=0) (show List.Nodup (["out","tie","web","tree"]:List Str) by decide +kernel) rfl (Or.inl rfl))) (λ_ _ _ _=>(Wl (Zf (JR K) (pv 1) (Xy (IP T) (hr.mono (by decide)) rfl T.mZo T.fZo.kp T.bZo .nil Zu (XY (pv 2) (XY (pv 3) (XY (pv 0) XX)))) rfl))) (λ_ _ _ _=>(pv 0))) (UA (XY (pv 2) XX))) XX)) XX)))))),?_⟩
  refine⟨_,rfl,_,rfl,w,a,n,ps,kd,ns,rfl,hW,hG,hS,λhT H1 s1=>?_,q2⟩;have one:1<=sizeLine:=by decide
  have tl:ns.length<=20:=by have:=hT.2.1;have:=hG.2.1;lia
  refine⟨_,rfl,_,rfl,a,_,rfl,(hS.same s1).or,rfl,Zq _,_,rfl,?_⟩;rw[Zy];refine Xc (λhc=>?_) (λhc=>?_)
  .exact Wf (q1 hT (.inl hc) H1 s1)
  .refine⟨_,rfl,_,rfl,w,n,ps,z,rfl,hW.same s1,_,rfl,?_⟩;refine WX (λht=>?_) (λht=>?_)
   .refine⟨_,rfl,a,rfl,ET (k:=kd) (K:=K) (xs:=IL ns) (λi ys H2=>Same H1 H2/\i<=ns.length/\ys=IL (UW n ps ns z (ns.take i))) ⟨Same.refl _,Yk _,rfl⟩ (Zh (by rw[XB];lia))
     (λi ys H2 hi ⟨e,VO,ey⟩=>⟨(hS.same s1).same e,by rw[ey,XB];exact Yv (TU ..) (by rw[Yj];lia)⟩) ?_ ?_⟩
    .rintro i x ys H2 hi ⟨s2,Vh,rfl⟩ S Xq;obtain⟨y,rfl,hy⟩:=ZW hi;have Xf:i<ns.length:=(Xm.mp hy).1
     have WR:=s1.trans s2;refine nm ?_;refine⟨_,rfl,_,rfl,_,rfl,_,rfl,w,a,n,ps,kd,ns,y,rfl,hW.same WR,hG,hS.same WR,hT.1,λr H3 s3 Vf Sf=>?_⟩;refine⟨r,_,rfl,.inr (SqT.of Sf),rfl,Zq _,_,rfl,?_⟩;rw[Zy];refine Xc (λhe=>?_) (λhe=>?_)
     .refine⟨_,rfl,Xq _ _ ⟨s2.trans s3,Xf,?_⟩⟩;rw[gC hy,if_pos he,ZK]
     .refine Xq _ _ ⟨s2.trans s3,Xf,?_⟩;rw[gC hy,if_neg he,YE]
    .rintro ys H2 ⟨s2,_,rfl⟩ p hp;rw[XB,YA];have rl:=TU n ps ns z ns
     refine⟨_,rfl,one,λp2 Wg=>?_⟩;refine EG (l2:=[z]) (by rw[Za (Zb XS Wg)];exact XS) XS (by simp only [Yt,Ub];lia) λp3 Si=>?_;refine⟨p3,_,rfl,SqL.of XS,by simp only [Xv,Yt,Ub];lia,λms Wh TQ p4 Ue=>?_⟩;refine⟨p4,IL ms,rfl,.inl ⟨SqL.of XS,λr hr=>?_⟩⟩;have s6:=(s1.trans s2).trans (Zs (Zs (XZ (o:=.lst (IL (UW n ps ns z ns))) hp) (o:=.lst (IL [z])) Wg) (o:=.lst (IL (UW n ps ns z ns++[z]))) Si)
     exact q hT hc ht.1 ht.2 ms Wh TQ r _ (s6.trans (Zs (XZ Ue) hr)) ((s6.trans (XZ Ue)).free hr) XS
   .exact q1 hT (.inr ht) H1 s1
def md(K:Ad)(C:Addr):Sp:=λvs H Q _=>∃(w a:Addr) (n:Int) (ps:Aa) (kd:Bool) (ns:Ac) (o z:Int),vs=[.ref w,.ref a,.int o,.int z]/\WebAt C H w n ps/\Zz n ps/\SqK kd K H a (IL ns)/\-(10 ^ 70)<o/\o<10 ^ 70/\-(10 ^ 70)<z/\z<10 ^ 70 /\
 (Ze n ps ns->exg n ps ns o z->∀(ms:Ac),ms.Perm (wo ns o++[z])->ms.Pairwise (·<=·)->∀(r:Addr) (H':Hp),Same H H'->H r=none->H' r=some (.tup (IL ms))->Q (.ref r) H') /\
 (Ze n ps ns->¬ exg n ps ns o z->∀ H':Hp,Same H H'->False)/\(¬ Ze n ps ns->∀ H':Hp,Same H H'->False)
theorem ma:FnScope ["web","tree","out","into"] ["web","tree","out","into"] (XD sZq):=⟨rfl,rfl,rfl,by decide +kernel,rfl,by decide +kernel,by decide +kernel⟩
theorem BV (T:Txt K mg t):FnOk P w K mg base Xg 8 t.aZq t.dZq ["web","tree","out","into"] (md K t.A_Web):=by
 refine T.fZq.ok ma (λvs H Q E h=>?_) (λXw A outer s H vs Q E hr h=>?_)
 .obtain⟨w,a,n,ps,kd,ns,o,z,rfl,_⟩:=h;rfl
 .obtain⟨w,a,n,ps,kd,ns,o,z,rfl,hW,hG,hS,o0,o1,z0,z1,q,q1,q2⟩:=h;refine⟨_,(XO (ZN (Xy (Us T) (hr.mono (by decide)) rfl T.mZm T.fZm.kp T.bZm .nil Zu (XY (pv 0) (XY (pv 1) XX))))
   (XO (WD (PW.pt (Sv (Zf (ZC K) (pv 2) (pv 1) rfl) (Sv (Zf VD (pv 3) (pv 2) (Zt _)) (Qq (Zf (ZC K) (pv 3) (Xy (IP T) (hr.mono (by decide)) rfl T.mZo T.fZo.kp T.bZo .nil Zu (XY (pv 0) (XY (pv 1) (XY (pv 2) XX)))) rfl)))))
   (XI ZV)
   Zn)
   (XI (Zj (Zm (ZG K) (by rfl) T.n_tuple Boot.«tuple» (XY (Zg (gz K) (by rfl) T.n_sorted Boot.«sorted» (XY (Zr (JI K) (Xy (IY T) (hr.mono (by decide)) rfl T.mZa T.fZa.kp T.bZa .nil Zu (XY (pv 1) (XY (pv 2) XX))) (UB (XY (pv 3) XX))) XX)) XX)))))),?_⟩
  refine⟨_,rfl,_,rfl,w,a,n,ps,kd,ns,rfl,hW,hG,hS,λhT H1 s1=>?_,q2⟩;have one:1<=sizeLine:=by decide
  have tl:ns.length<=20:=by have:=hT.2.1;have:=hG.2.1;lia
  refine⟨_,rfl,_,rfl,a,_,rfl,(hS.same s1).or,rfl,Zq _,_,rfl,?_⟩;rw[Zy];refine WX (λho=>?_) (λho=>?_);rotate_left
  .exact Wf (q1 hT (λh=>ho h.1) H1 s1)
  refine⟨_,rfl,_,rfl,rfl,_,rfl,?_⟩;rw[ZD];refine Xc (λhe=>?_) (λhe=>?_)
  .exact Wf (q1 hT (λh=>h.2.1 he) H1 s1)
  refine⟨_,rfl,_,rfl,_,rfl,_,rfl,w,a,n,ps,kd,ns,o,rfl,hW.same s1,hG,hS.same s1,hT.1,λr H2 s2 Vf Vy=>?_⟩;have WR:=s1.trans s2
  refine⟨r,_,rfl,.inr (SqT.of Vy),rfl,Zq _,_,rfl,?_⟩;rw[Zy];refine WX (λhc=>?_) (λhc=>?_)
  .have hx:exg n ps ns o z:=⟨ho,he,hc⟩;refine⟨_,rfl,_,rfl,a,kd,ns,o,rfl,hS.same WR,by lia,λr1 H3 s3 l9 l8=>?_⟩;have wl:=PM ns o
   refine⟨_,rfl,one,λp2 Wg=>?_⟩;have s4:=XZ (o:=.tup (IL [z])) Wg
   have Ll:=(WR.trans s3).trans s4;refine⟨r1,p2,IL (wo ns o),IL [z],rfl,rfl,SqT.of (s4 _ _ l8),SqT.of XS,OA (by rw[XB,XB,Yt,Ub];lia),λe=>?_,λ_ e=>(nomatch e),λ_ _ p3 Si=>?_⟩
   .have e0:wo ns o=[]:=by cases h:wo ns o with | nil=>rfl | cons x l=>rw[h]at e;cases e
    refine⟨p2,[z],rfl,SqT.of XS,by simp,λms Wh TQ p4 Ue=>?_⟩;refine⟨p4,IL ms,rfl,.inl ⟨SqL.of XS,λr9 hr=>?_⟩⟩;exact q hT hx ms (by rwa[e0]) TQ r9 _ (Ll.trans (Zs (XZ Ue) hr)) ((Ll.trans (XZ Ue)).free hr) XS
   .have BU:=Ll.trans (XZ (o:=.tup (IL (wo ns o)++IL [z])) Si);refine⟨p3,wo ns o++[z],rfl,SqT.of (by rw[XS];congr 2;exact(YJ ..).symm),by simp only [Xv,Yt,Ub];lia,λms Wh TQ p4 Ue=>?_⟩;refine⟨p4,IL ms,rfl,.inl ⟨SqL.of XS,λr9 hr=>?_⟩⟩;exact q hT hx ms Wh TQ r9 _ (BU.trans (Zs (XZ Ue) hr)) ((BU.trans (XZ Ue)).free hr) XS
  .exact q1 hT (λh=>hc h.2.2) H2 WR
def l7(K:Ad)(C:Addr):Sp:=λvs H Q _=>∃(w a b:Addr) (n:Int) (ps:Aa) (I O:Ac),vs=[.ref w,.ref a,.ref b]/\WebAt C H w n ps/\Zz n ps/\SqT K H a (IL I)/\SqT K H b (IL O)/\I.Nodup/\(∀ z∈I,0<=z/\z<(ps.length:Int))/\(∀ z∈I,z∉O) /\
 (∀ H':Hp,Same H H'->(∀ U,¬ With n ps I O U)->Q .non H') /\
 (∀(r:Addr) (F:Ac) (H':Hp),Same H H'->H' r=some (.tup (IL F))->With n ps I O F->(∀ U,With n ps I O U->HT.lexLt U F=false)->Q (.ref r) H')
theorem l6:FnScope ["web","inside","outside"] ["web","inside","outside"] (XD sZr):=⟨rfl,rfl,rfl,by decide +kernel,rfl,by decide +kernel,by decide +kernel⟩
theorem BS (T:Txt K mg t):FnOk P w K mg base Xg 4 t.aZr t.dZr ["web","inside","outside"] (l7 K t.A_Web):=by
 refine T.fZr.ok l6 (λvs H Q E h=>?_) (λXw A outer s H vs Q E hr h=>?_)
 .obtain⟨w,a,b,n,ps,I,O,rfl,_⟩:=h;rfl
 .obtain⟨w,a,b,n,ps,I,O,rfl,hW,hG,hA,hB,hIn,Xn,hd,q0,q1⟩:=h;refine⟨_,(XI (Zj (Xy (mq T) (hr.mono (by decide)) rfl T.mZn T.fZn.kp T.bZn .nil Zu (XY (pv 0) (XY (pv 1) (XY (Xy (nE T) (hr.mono (by decide)) rfl T.mZ9 T.fZ9.kp T.bZ9 .nil Zu (XY (pv 0) (XY (pv 2) XX))) XX)))))),?_⟩;have g3:=hG.2.2.1
  refine⟨_,rfl,_,rfl,_,rfl,_,rfl,w,b,n,ps,true,O,rfl,hW,by lia,hB,λD cb hD dA H1 s1 hdA=>?_⟩;have hDs:IsSet ps.length D:=XU.mpr ⟨λz hz=>((hD z).mp hz).1,cb⟩
  have hb:∀ z∈I++D,0<=z/\z<(ps.length:Int):=λz hz=>(Xr.mp hz).elim (Xn z) λh=>((hD z).mp h).1;have il:I.length<=ps.length:=by
   have:=LM (m:=VP ps.length) hIn λz hz=>Xk.mpr (Xn z hz)
   rwa[ZR]at this
  have dl:=hDs.len;refine⟨w,a,dA,n,ps,true,true,I,D,rfl,hW.same s1,hG,LV s1 hA,SqT.of hdA,by lia,by lia,hb,λh H2 s2=>q0 H2 (s1.trans s2) λU hU=>?_,λht hl r ms H2 Wh TQ s2 Vf hr=>?_⟩
  .have:=sG hG hU.1 hIn hU.2.1 (hU.sub hD) hb
   rcases h with h | h
   .exact h this.1
   .exact this.2 h
  .have hF:With n ps I O ms:=⟨ZS5 hG hb hl Wh TQ,λz hz=>Wh.mem_iff.mpr (Ig (ht ▸ hz)),λz hz h=>(Xr.mp ((Nm _ _ _).subset (Wh.mem_iff.mp h))).elim (λh=>hd z h hz) λh=>((hD z).mp h).2 hz⟩;exact q1 r ms H2 (s1.trans s2) hr hF λU hU=>sD hG hU.1 hU.2.1 (hU.sub hD) hb cb hF.1 Wh hF.2.1
def lZ(K:Ad)(C:Addr):Sp:=λvs H Q _=>∃(w m:Addr) (n:Int) (ps:Aa) (M:Ac) (z:Int),vs=[.ref w,.ref m,.int z]/\WebAt C H w n ps/\Zz n ps/\H m=some (.lst (IL M))/\M.length=n.toNat/\0<=z/\z<(ps.length:Int) /\
 ∀(r:Addr) (l:Ac) (H':Hp),l.Perm [mk M (ps.getD z.toNat (0,0)).1.toNat,mk M (ps.getD z.toNat (0,0)).2.toNat]->l.Pairwise (·<=·)->Same H H'->H' r=some (.lst (IL l))->Q (.ref r) H'
theorem BR:FnScope ["web","marks","tie","ends"] ["web","marks","tie"] (XD sZs):=⟨rfl,rfl,rfl,by decide +kernel,rfl,by decide +kernel,by decide +kernel⟩
theorem BQ (T:Txt K mg t):FnOk P w K mg base Xg 1 t.aZs t.dZs ["web","marks","tie"] (lZ K t.A_Web):=by
 refine T.fZs.ok BR (λvs H Q E h=>?_) (λXw A outer s H vs Q E hr h=>?_)
 .obtain⟨w,m,n,ps,M,z,rfl,_⟩:=h;rfl
 .obtain⟨w,m,n,ps,M,z,rfl,hW,hG,hM,QJ,z0,z1,q⟩:=h;refine⟨_,(XO (Zi (i:=3) BR.nd rfl (Or.inl rfl) (ZF (Zd K) (Zo K (pv 0) rfl) (pv 2) (λ_ _=>rfl)))
   (XI (Zj (Zg (zz K) (by rfl) T.n_sorted Boot.«sorted» (XY (UA (XY (ZF (Zd K) (pv 1) (ZF (ZJ K) (pv 3) XN (λ_ _=>rfl)) (λ_ _=>rfl)) (XY (ZF (Zd K) (pv 1) (ZF (ZJ K) (pv 3) XN (λ_ _=>rfl)) (λ_ _=>rfl)) XX))) XX))))),?_⟩
  obtain⟨g1,g2,g3,g4⟩:=id hG;obtain⟨dx,tl,xs,h1,h2,h3⟩:=id hW;obtain⟨p,hp⟩:∃ p,ps[z.toNat]?=some p:=⟨_,Xu (by lia)⟩;have ep:ps.getD z.toNat (0,0)=p:=We hp
  rw[ep]at q;obtain⟨v,hv,tt,rfl,UR⟩:=h3.2 _ p hp;obtain⟨e1,e2,e3,e4⟩:=g4 p (Xi hp);have t0:Ws ([.int p.1,.int p.2]:List V) 0=some (.int p.1):=rfl
  have t1:Ws ([.int p.1,.int p.2]:List V) 1=some (.int p.2):=rfl;have iA:Ws (IL M) p.1=some (.int (mk M p.1.toNat)):=ZB (n:=p.1.toNat) (by lia) (WI (Ox (by grind)))
  have iB:Ws (IL M) p.2=some (.int (mk M p.2.toNat)):=ZB (n:=p.2.toNat) (by lia) (WI (Ox (by grind)));refine⟨_,rfl,w,_,dx,_,_,rfl,h1,T.cl_Web,T.n_Web_ties,Oz _ _,_,rfl,tl,_,_,.ref tt,rfl,rfl,SqL.of h2,ZB (n:=z.toNat) (by lia) hv,?_⟩;refine nm ?_;refine⟨_,rfl,_,rfl,tt,_,0,_,rfl,rfl,SqT.of UR,t0,m,_,p.1,_,rfl,rfl,SqL.of hM,iA,_,rfl,_,rfl,tt,_,1,_,rfl,rfl,SqT.of UR,t1,m,_,p.2,_,rfl,rfl,SqL.of hM,iB,(by show 2<=sizeLine;decide),λa ha=>?_⟩;have s1:=XZ (o:=.lst (IL [mk M p.1.toNat,mk M p.2.toNat])) ha
  refine⟨a,[mk M p.1.toNat,mk M p.2.toNat],rfl,SqL.of XS,(by show 2<64;decide),λl hl hs r hr=>?_⟩;exact q r l _ hl hs (s1.trans (XZ hr)) XS
def lY(K:Ad)(C:Addr):Sp:=λvs H Q _=>∃(w m a:Addr) (n:Int) (ps:Aa) (M g:Ac),vs=[.ref w,.ref m,.ref a]/\WebAt C H w n ps/\Zz n ps/\H m=some (.lst (IL M))/\M.length=n.toNat/\SqT K H a (IL g) /\
 ∀(r:Addr) (H':Hp),Same H H'->H r=none->H' r=some (.lst (IL (MV M ps g ps.length)))->Q (.ref r) H'
theorem lX:FnScope ["web","marks","gone"] ["web","marks","gone"] (XD sZt):=⟨rfl,rfl,rfl,by decide +kernel,rfl,by decide +kernel,by decide +kernel⟩
theorem BP (T:Txt K mg t):FnOk P w K mg base Xg 1 t.aZt t.dZt ["web","marks","gone"] (lY K t.A_Web):=by
 refine T.fZt.ok lX (λvs H Q E h=>?_) (λXw A outer s H vs Q E hr h=>?_)
 .obtain⟨w,m,a,n,ps,M,g,rfl,_⟩:=h;rfl
 .obtain⟨w,m,a,n,ps,M,g,rfl,hW,hG,hM,QJ,hA,q⟩:=h;refine⟨_,(XI (Zj (Vt rfl (sc0:=XD sZt) (N0:=["web","marks","gone"]) (N':=["tie","ends","gone","marks"]) (o:=2) (fr:=[2,1]) ⟨rfl,by decide +kernel,by decide +kernel,by decide +kernel,rfl,by decide +kernel⟩ (RM K rfl T.n_enumerate (XY (Zo K (pv 0) rfl) XX)) (Fe (OH (by decide) (OH (by decide) Ff))) (λ_ _ _ _=>(PV (n:=2) K rfl (Zv (Zc (i:=0) (show List.Nodup (["tie","ends","gone","marks"]:List Str) by decide +kernel) rfl (Or.inl rfl)) (Zv (Zc (i:=1) (show List.Nodup (["tie","ends","gone","marks"]:List Str) by decide +kernel) rfl (Or.inl rfl)) QY)))) (λ_ _ _ _=>(Wl (PW.pt (HK (Zf (ZC K) (pv 0) (pv 2) rfl) (RT (Zf Wo (ZF (Zd K) (pv 3) (ZF (ZJ K) (pv 1) XN (λ_ _=>rfl)) (λ_ _=>rfl)) (ZF (Zd K) (pv 3) (ZF (ZJ K) (pv 1) XN (λ_ _=>rfl)) (λ_ _=>rfl)) (Zt _))))))) (λ_ _ _ _=>(pv 0))))),?_⟩;obtain⟨g1,g2,g3,g4⟩:=id hG;obtain⟨dx,tl,xs,h1,h2,h3⟩:=id hW;have QT:=h3.1
  refine⟨_,rfl,w,_,dx,_,_,rfl,h1,T.cl_Web,T.n_Web_ties,Oz _ _,tl,rfl,⟨_,SqL.of h2⟩,Np (K:=K) (a:=tl) (xs:=xs) (λi ys H3=>Same H H3/\i<=xs.length/\ys=IL (MV M ps g i)) ⟨Same.refl _,Yk _,rfl⟩ (Zh (by lia))
   (λi ys H3 _ h=>by obtain⟨e,_,ey⟩:=h;exact⟨SqL.of (e _ _ h2),by rw[ey,XB];exact o8 _ _ _ _⟩) ?_ ?_⟩
  .rintro i x ys H3 pt SG hi ⟨s3,Vh,rfl⟩ S Xq;obtain⟨p,PR,tt,rfl,UR⟩:=h3.at hi;obtain⟨e1,e2,e3,e4⟩:=g4 p (Xi PR);have Xf:i<xs.length:=(Xm.mp hi).1
   have s4:Same H3 (upd H3 pt (.tup [.int i,.ref tt])):=XZ SG;have Sg:=s3.trans s4
   have Pf:=Sg _ _ UR;have BW:=Sg _ _ hM
   have Ln:=SqK.same (k:=true) Sg hA;have ed:ps.getD i (0,0)=p:=We PR
   have t0:Ws ([.int p.1,.int p.2]:List V) 0=some (.int p.1):=rfl;have t1:Ws ([.int p.1,.int p.2]:List V) 1=some (.int p.2):=rfl
   have iA:Ws (IL M) p.1=some (.int (mk M p.1.toNat)):=ZB (n:=p.1.toNat) (by lia) (WI (Ox (by grind)));have iB:Ws (IL M) p.2=some (.int (mk M p.2.toNat)):=ZB (n:=p.2.toNat) (by lia) (WI (Ox (by grind)))
   have hs:=o9 M ps g i;rw[ed]at hs;refine⟨pt,_,rfl,SqT.of XS,rfl,_,_,rfl,_,_,rfl,rfl,?_⟩;refine⟨_,rfl,_,rfl,a,_,rfl,.inr Ln,rfl,Zq _,_,rfl,?_⟩;rw[Zy];refine WX (λhe=>?_) (λhe=>?_)
   .refine Xq _ _ ⟨Sg,Xf,?_⟩;rw[hs,if_neg (λh=>h.1 he),YE]
   refine⟨_,rfl,_,rfl,tt,_,0,_,rfl,rfl,SqT.of Pf,t0,m,_,p.1,_,rfl,rfl,SqL.of BW,iA,_,rfl,_,rfl,tt,_,1,_,rfl,rfl,SqT.of Pf,t1,m,_,p.2,_,rfl,rfl,SqL.of BW,iB,rfl,_,rfl,?_⟩;rw[ZD];refine WX (λhx=>?_) (λhx=>?_)
   .refine Xq _ _ ⟨Sg,Xf,?_⟩;rw[hs,if_neg (λh=>h.2 hx),YE]
   .refine⟨_,rfl,Xq _ _ ⟨Sg,Xf,?_⟩⟩;rw[hs,if_pos ⟨he,hx⟩,ZK]
  .rintro ys H3 ⟨s3,_,rfl⟩ p hp;rw[QT];exact q p _ (s3.trans (XZ hp)) (s3.free hp) XS
def lV(st:Stmt):Pos:=match (OI st).getD 9 (.Pass ⟨0,0,0,0⟩) with
 | .Assign _ (.Call _ _ [k] _) _=>(match k.value with
  | .Lambda _ _ _ p=>p
  | _=>⟨0,0,0,0⟩)
 | _=>⟨0,0,0,0⟩
def lU:Str:=Str.ofString "Part.__init__"++Str.ofString ".<locals>."++Str.ofString "<lambda>"
abbrev WN(H:Hp)(Pt:Addr):Prop:=TabH H Pt (lV sZu) lU
def b9(K:Ad)(CP C Pt:Addr):Sp:=λvs H Q _=>∃(x dx w a b:Addr) (n:Int) (ps:Aa) (I O:Ac) (ld:Option Int),vs=[.ref x,.ref w,.ref a,.ref b,Xa ld]/\H x=some (.ins CP dx [])/\WebAt C H w n ps/\Zz n ps/\WN H Pt /\
 SqT K H a (IL I)/\SqT K H b (IL O)/\I.Nodup/\(∀ z∈I,0<=z/\z<(ps.length:Int))/\(∀ z∈I,z∉O)/\O.length<=30/\(∃ U,With n ps I O U)/\(∀ y,ld=some y->0<=y/\y<(ps.length:Int))/\(ld=none->∀ F,With n ps I O F->(∀ U,With n ps I O U->HT.lexLt U F=false)->WU n ps I O F=[]) /\
 ∀(F inc:Ac) (fu:Option Int) (l i:Addr) (H':Hp),With n ps I O F->(∀ U,With n ps I O U->HT.lexLt U F=false)->Sj (λz=>PyProof.Rows.b2i (decide (ld=some z))) (TB n ps I O F ld) inc->(fu=none↔VX n ps I O F ld=[])->(∀ y,fu=some y->y∈VX n ps I O F ld/\∀ z∈VX n ps I O F ld,y<=z) ->
  H' x=some (.ins CP dx (yJ (.ref w) (.ref a) (.ref b) (Xa ld) (.ref l) (.ref i) (Xa fu)))->H' l=some (.tup (IL F))->H' i=some (.lst (IL inc))->(∀ b o,b≠x->b≠Pt->H b=some o->H' b=some o)->WN H' Pt->Q .non H'
theorem Pe:FnScope ["self","web","kept","shut","lead","marks","opened","alike","unlike"] ["self","web","kept","shut","lead"] (XD sZu):=⟨rfl,rfl,rfl,by decide +kernel,rfl,by decide +kernel,by decide +kernel⟩
theorem IK {Pt:Addr} (T:Txt K mg t) (hB:Lw K mg base t.dZu Pt):FnOk P w K mg base Xg 8 t.aZu t.dZu ["self","web","kept","shut","lead"] (b9 K t.A_Part t.A_Web Pt):=by
 obtain⟨cA,UL,hC,hBa,Dg⟩:=hB;refine T.fZu.okL UL Pe (λvs H Q E h=>?_) (λA outer s H vs Q E hr h=>?_)
 .obtain⟨x,dx,w,a,b,n,ps,I,O,ld,rfl,_⟩:=h;rfl
 .obtain⟨x,dx,w,a,b,n,ps,I,O,ld,rfl,hx,hW,hG,hT,hA,Rn,hIn,Xn,UN,Of,⟨U0,GV⟩,Cv,To,q⟩:=h;refine⟨_,(XO (NF (pv 0) (pv 1) rfl)
   (XO (NF (pv 0) (pv 2) rfl)
   (XO (NF (pv 0) (pv 3) rfl)
   (XO (NF (pv 0) (pv 4) rfl)
   (XO (NF (pv 0) (Xy (BS T) (hr.mono (by decide)) rfl T.mZr T.fZr.kp T.bZr .nil Zu (XY (pv 1) (XY (pv 2) (XY (pv 3) XX)))) rfl)
   (XO (Zi (i:=5) Pe.nd rfl (Or.inr rfl) (Xy (Rr T) (hr.mono (by decide)) rfl T.mZe T.fZe.kp T.bZe .nil Zu (XY (pv 1) (XY (pv 2) XX))))
   (XO (Zi (i:=6) Pe.nd rfl (Or.inl rfl) (Xy (BP T) (hr.mono (by decide)) rfl T.mZt T.fZt.kp T.bZt .nil Zu (XY (pv 1) (XY (pv 5) (XY (Zr (JI K) (Zr (JI K) (pv 2) (pv 3)) (Zo K (pv 0) rfl)) XX)))))
   (XO (Zi (i:=7) Pe.nd rfl (Or.inr rfl) (Vt rfl (sc0:=XD sZu) (N0:=["self","web","kept","shut","lead","marks","opened","alike","unlike"]) (N':=["tie","web","marks","lead"]) (o:=1) (fr:=[1,5,4]) ⟨rfl,by decide +kernel,by decide +kernel,by decide +kernel,rfl,by decide +kernel⟩ (ZI K (pv 6)) (Zp (by decide)) (λ_ _ _ _=>(Zc (i:=0) (show List.Nodup (["tie","web","marks","lead"]:List Str) by decide +kernel) rfl (Or.inl rfl))) (λ_ _ _ _=>(Wl (Zf (tY K (t8 hr)) (Xy (BQ T) (hr.mono (by decide)) rfl T.mZs T.fZs.kp T.bZs .nil Zu (XY (pv 1) (XY (pv 2) (XY (pv 0) XX)))) (Xy (BQ T) (hr.mono (by decide)) rfl T.mZs T.fZs.kp T.bZs .nil Zu (XY (pv 1) (XY (pv 2) (XY (pv 3) XX)))) (Zt _)))) (λ_ _ _ _=>(pv 0))))
   (XO (OE (i:=8) rfl Pe.nd rfl rfl (sc0:=XD sZu) (N0:=["self","web","kept","shut","lead","marks","opened","alike","unlike"]) (N':=["tie","alike"]) (o:=1) (fr:=[7]) ⟨rfl,by decide +kernel,by decide +kernel,by decide +kernel,rfl,by decide +kernel⟩ (ZI K (pv 6)) (Zp (by decide)) (λ_ _ _ _=>(Zc (i:=0) (show List.Nodup (["tie","alike"]:List Str) by decide +kernel) rfl (Or.inl rfl))) (λ_ _ _ _=>(Wl (Zf (ZC K) (pv 0) (pv 1) rfl))) (λ_ _ _ _=>(pv 0)))
   (XO (NF (pv 0) (ZL5 (k:=0) (i:=4) (v:="tie") (x:="lead") (pv 7) (by rfl) T.n_sorted (hr.mono (by decide)) rfl rfl hC hBa Dg (LamScope.of rfl rfl rfl (by first | exact .inl rfl | exact .inr rfl) (by decide)) rfl rfl (λ_ _ _ _=>rfl) rfl rfl rfl (λ_ _ _ _ _ _ hr=>(NG VD (pv 0) (pv 1) (Zt _)))) rfl)
   (XI (NF (pv 0) (CQ rfl (by rfl) T.n_min (pv 8)) rfl)))))))))))),?_⟩
  obtain⟨g1,g2,g3,g4⟩:=id hG;refine⟨_,rfl,_,rfl,x,_,dx,[],rfl,hx,T.cl_Part,T.n_Part_web,(by show 0<1000;decide),?_⟩;refine⟨_,rfl,_,rfl,x,_,dx,_,rfl,XS,T.cl_Part,T.n_Part_kept,(by show 1<1000;decide),?_⟩;refine⟨_,rfl,_,rfl,x,_,dx,_,rfl,XS,T.cl_Part,T.n_Part_shut,(by show 2<1000;decide),?_⟩;refine⟨_,rfl,_,rfl,x,_,dx,_,rfl,XS,T.cl_Part,T.n_Part_lead,(by show 3<1000;decide),?_⟩;change UG _ _ _ [some (.ref x),some (.ref w),some (.ref a),some (.ref b),some (Xa ld),none,none,none,none] (upd (upd (upd (upd H x (.ins t.A_Part dx (XM "web" (.ref w) []))) x (.ins t.A_Part dx (XM "kept" (.ref a) (XM "web" (.ref w) [])))) x (.ins t.A_Part dx (XM "shut" (.ref b) (XM "kept" (.ref a) (XM "web" (.ref w) []))))) x (.ins t.A_Part dx (XM "lead" (Xa ld) (XM "shut" (.ref b) (XM "kept" (.ref a) (XM "web" (.ref w) []))))));have Lk:SameX x H (upd (upd (upd (upd H x (.ins t.A_Part dx (XM "web" (.ref w) []))) x (.ins t.A_Part dx (XM "kept" (.ref a) (XM "web" (.ref w) [])))) x (.ins t.A_Part dx (XM "shut" (.ref b) (XM "kept" (.ref a) (XM "web" (.ref w) []))))) x (.ins t.A_Part dx (XM "lead" (Xa ld) (XM "shut" (.ref b) (XM "kept" (.ref a) (XM "web" (.ref w) [])))))):=((WG.trans WG).trans WG).trans WG
  have yk:(upd (upd (upd (upd H x (.ins t.A_Part dx (XM "web" (.ref w) []))) x (.ins t.A_Part dx (XM "kept" (.ref a) (XM "web" (.ref w) [])))) x (.ins t.A_Part dx (XM "shut" (.ref b) (XM "kept" (.ref a) (XM "web" (.ref w) []))))) x (.ins t.A_Part dx (XM "lead" (Xa ld) (XM "shut" (.ref b) (XM "kept" (.ref a) (XM "web" (.ref w) [])))))) x=some (.ins t.A_Part dx [("web",.ref w),("kept",.ref a),("shut",.ref b),("lead",Xa ld)]):=XS;generalize upd (upd (upd (upd H x (.ins t.A_Part dx (XM "web" (.ref w) []))) x (.ins t.A_Part dx (XM "kept" (.ref a) (XM "web" (.ref w) [])))) x (.ins t.A_Part dx (XM "shut" (.ref b) (XM "kept" (.ref a) (XM "web" (.ref w) []))))) x (.ins t.A_Part dx (XM "lead" (Xa ld) (XM "shut" (.ref b) (XM "kept" (.ref a) (XM "web" (.ref w) [])))))=H4 at *;have hW4:=hW.but hx Lk
  have Ln:=CN hA hx Lk;have mD:=CN Rn hx Lk
  have il:I.length<=ps.length:=by
   have:=LM (m:=VP ps.length) hIn λz hz=>Xk.mpr (Xn z hz)
   rwa[ZR]at this
  refine⟨_,rfl,_,rfl,_,rfl,w,a,b,n,ps,I,O,rfl,hW4,hG,Ln,mD,hIn,Xn,UN,λH5 s5 h=>absurd GV (h U0),λl F H5 s5 hl hF Vw=>?_⟩;refine⟨_,rfl,x,_,dx,_,rfl,s5 _ _ yk,T.cl_Part,T.n_Part_least,(by show 4<1000;decide),?_⟩;have BO:SameX x H H5:=Lk.trans (SameX.same s5)
  have yd:SameX x H (upd H5 x (.ins t.A_Part dx (XM "least" (.ref l) [("web",.ref w),("kept",.ref a),("shut",.ref b),("lead",Xa ld)]))):=BO.trans WG;have b8:(upd H5 x (.ins t.A_Part dx (XM "least" (.ref l) [("web",.ref w),("kept",.ref a),("shut",.ref b),("lead",Xa ld)]))) x=some (.ins t.A_Part dx [("web",.ref w),("kept",.ref a),("shut",.ref b),("lead",Xa ld),("least",.ref l)]):=XS
  have Cf:(upd H5 x (.ins t.A_Part dx (XM "least" (.ref l) [("web",.ref w),("kept",.ref a),("shut",.ref b),("lead",Xa ld)]))) l=some (.tup (IL F)):=by rwa[Za (λe=>by rw[e,s5 _ _ yk]at hl;cases hl)]
  change UG _ _ _ [some (.ref x),some (.ref w),some (.ref a),some (.ref b),some (Xa ld),none,none,none,none] (upd H5 x (.ins t.A_Part dx (XM "least" (.ref l) [("web",.ref w),("kept",.ref a),("shut",.ref b),("lead",Xa ld)])));generalize upd H5 x (.ins t.A_Part dx (XM "least" (.ref l) [("web",.ref w),("kept",.ref a),("shut",.ref b),("lead",Xa ld)]))=H6 at *;refine⟨_,rfl,_,rfl,w,a,n,ps,I,rfl,hW.but hx yd,hG,CN hA hx yd,Xn,λm H7 s7 QL ye=>?_⟩;refine nm ?_;dsimp only [List.set];have MI:SameX x H H7:=yd.trans (SameX.same s7)
  have hF1:F.length<=ps.length:=hF.1.1.len;have QJ:(Xs n.toNat (XQ ps I)).length=n.toNat:=ZE _ _
  refine⟨_,rfl,_,rfl,_,rfl,_,rfl,?_⟩;refine CM (l:=I) (m:=O) (CN hA hx MI) (CN Rn hx MI) (by lia) λr1 H8 s8 VH=>?_;have x9:SameX x H H8:=MI.trans (SameX.same s8)
  have lS:=s7.trans s8;refine⟨_,rfl,x,_,dx,_,.ref l,rfl,lS _ _ b8,T.cl_Part,T.n_Part_least,rfl,?_⟩;refine CM (l:=I++O) (m:=F) VH (SqT.of (lS _ _ Cf)) (by rw[Xv];lia) λr2 H9 s9 Vy=>?_;have s69:=lS.trans s9
  have b7:SameX x H H9:=x9.trans (SameX.same s9);have yh:=s8.trans s9
  refine⟨w,m,r2,n,ps,Xs n.toNat (XQ ps I),I++O++F,rfl,hW.but hx b7,hG,yh _ _ ye,QJ,Vy,λpA QH Ud hp0 Pd=>?_⟩;have Pd:QH pA=some (.lst (IL (WU n ps I O F))):=Pd
  refine nm ?_;dsimp only [List.set];have bZ:SameX x H QH:=b7.trans (SameX.same Ud)
  have s6A:=s69.trans Ud;have bY:=(yh.trans Ud) _ _ ye
  have Qd:∀ z∈WU n ps I O F,0<=z/\z<(ps.length:Int):=λz hz=>CL hz;have QV:(WU n ps I O F).length<=ps.length:=o8 _ _ _ _
  refine⟨_,rfl,pA,rfl,⟨_,SqL.of Pd⟩,Sr (K:=K) (a:=pA) (xs:=IL (WU n ps I O F)) (λi ws Pg=>Same QH Pg/\i<=(WU n ps I O F).length/\ws=IL (((WU n ps I O F).take i).filter λz=>decide (∃ y,ld=some y/\UK (Xs n.toNat (XQ ps I)) ps z=UK (Xs n.toNat (XQ ps I)) ps y))) ⟨Same.refl _,Yk _,rfl⟩ (Zh (by rw[XB];lia))
   (λi ws Pg hi h=>by obtain⟨e,VO,ew⟩:=h;exact⟨SqL.of (e _ _ Pd),by rw[ew,XB];exact Yv (YF ..) (by rw[Yj];lia)⟩) ?_ ?_⟩
  .rintro i v ws Pg hi ⟨Te,Vh,rfl⟩ S Xq;obtain⟨z,rfl,hz⟩:=ZW hi;obtain⟨z0,z1⟩:=Qd z (Xi hz);have Xf:i<(WU n ps I O F).length:=(Xm.mp hz).1
   obtain⟨y,rfl⟩:∃ y,ld=some y:=by
    cases ld with
    | some y=>exact⟨y,rfl⟩
    | none =>
     rw[To rfl F hF Vw]at Xf;exact absurd Xf (Wq _)
   obtain⟨y0,y1⟩:=Cv y rfl;refine nm ?_;refine⟨_,rfl,_,rfl,_,rfl,w,m,n,ps,_,z,rfl,hW.but hx (bZ.trans (SameX.same Te)),hG,Te _ _ bY,QJ,z0,z1,λe1 l1 bX Tx hs1 WR DM=>?_⟩;have IJ:=Te.trans WR
   refine⟨_,rfl,_,rfl,_,rfl,w,m,n,ps,_,y,rfl,hW.but hx (bZ.trans (SameX.same IJ)),hG,IJ _ _ bY,QJ,y0,y1,λe2 l2 bW Su Ts Lj Qb=>?_⟩;refine⟨1,_,e1,e2,rfl,rfl,by decide,gJ (SqL.of (Lj _ _ DM)) (SqL.of Qb),_,rfl,?_⟩;have ed:decide (l1=l2)=decide (∃ bV,some y=some bV/\UK (Xs n.toNat (XQ ps I)) ps z=UK (Xs n.toNat (XQ ps I)) ps bV):=by
    rw[dG Tx hs1,dG Su Ts,NR];constructor
    .intro e;injection e with e1 e2
     injection e2 with e2 _;exact⟨y,rfl,Prod.ext e1 e2⟩
    .rintro⟨y',e,e'⟩;cases e;obtain⟨e1,e2⟩:=Prod.mk.inj e';rw[e1,e2]
   have BN:=IJ.trans Lj;show(if decide (l1=l2)=true then _ else _)
   rw[ed];refine Xc (λhc=>?_) (λhc=>?_)
   .refine⟨_,rfl,Xq _ _ ⟨BN,Xf,?_⟩⟩;rw[Zw hz,if_pos (Yr hc),ZK]
   .refine Xq _ _ ⟨BN,Xf,?_⟩;rw[Zw hz,if_neg (by simpa using hc),YE]
  rintro ws Pg ⟨Te,_,rfl⟩ kA hkA;rw[XB,YA];have ea:((WU n ps I O F).filter λz=>decide (∃ y,ld=some y/\UK (Xs n.toNat (XQ ps I)) ps z=UK (Xs n.toNat (XQ ps I)) ps y))=TB n ps I O F ld:=rfl
  rw[ea];have cQ:(TB n ps I O F ld).length<=ps.length:=Yv (YF ..) QV
  have v1:=XZ (o:=.lst (IL (TB n ps I O F ld))) hkA;have kK:(upd Pg kA (.lst (IL (TB n ps I O F ld)))) kA=some (.lst (IL (TB n ps I O F ld))):=XS
  refine nm ?_;dsimp only [List.set];have bU:=Te.trans v1
  change UG _ _ _ _ (upd Pg kA (.lst (IL (TB n ps I O F ld))));generalize upd Pg kA (.lst (IL (TB n ps I O F ld)))=bT at *;have bS:=bU _ _ Pd
  refine⟨_,rfl,pA,rfl,⟨_,SqL.of bS⟩,Sr (K:=K) (a:=pA) (xs:=IL (WU n ps I O F)) (λi ws Li=>Li=bT/\i<=(WU n ps I O F).length/\ws=IL (((WU n ps I O F).take i).filter λz=>decide (z∉TB n ps I O F ld))) ⟨rfl,Yk _,rfl⟩ (Zh (by rw[XB];lia))
   (λi ws Li hi h=>by obtain⟨e,VO,ew⟩:=h;exact⟨e ▸ SqL.of bS,by rw[ew,XB];exact Yv (YF ..) (by rw[Yj];lia)⟩) ?_ ?_⟩
  .rintro i v ws Li hi ⟨rfl,Vh,rfl⟩ S Xq;obtain⟨z,rfl,hz⟩:=ZW hi;have Xf:i<(WU n ps I O F).length:=(Xm.mp hz).1
   refine nm ?_;refine⟨_,rfl,_,rfl,kA,_,rfl,.inl (SqL.of kK),rfl,Zq _,_,rfl,?_⟩;rw[Zy];refine WX (λhe=>?_) (λhe=>?_)
   .refine Xq _ _ ⟨rfl,Xf,?_⟩;rw[Zw hz,if_neg (by simpa using he),YE]
   .refine⟨_,rfl,Xq _ _ ⟨rfl,Xf,?_⟩⟩;rw[Zw hz,if_pos (Yr he),ZK]
  rintro ws Li ⟨rfl,_,rfl⟩ uA huA;rw[XB,YA];have eu:((WU n ps I O F).filter λz=>decide (z∉TB n ps I O F ld))=VX n ps I O F ld:=rfl
  rw[eu];have v2:=XZ (o:=.lst (IL (VX n ps I O F ld))) huA
  have kU:(upd Li uA (.lst (IL (VX n ps I O F ld)))) uA=some (.lst (IL (VX n ps I O F ld))):=XS;refine nm ?_;dsimp only [List.set];have lR:=(s6A.trans bU).trans v2
  have kKU:=v2 _ _ kK;have bR:SameX x H (upd Li uA (.lst (IL (VX n ps I O F ld)))):=yd.trans (SameX.same lR)
  have JE:=lR _ _ b8;have bQ:=lR _ _ Cf
  change UG _ _ _ _ (upd Li uA (.lst (IL (VX n ps I O F ld))));generalize upd Li uA (.lst (IL (VX n ps I O F ld)))=H16 at *;have MH:WN H16 Pt:=o7 hT hx bR
  refine⟨_,rfl,kA,TB n ps I O F ld,Xa ld,λz=>decide (ld=some z),rfl,SqL.of kKU,by lia,MH,rfl,λBM Pc z hz=>?_,λinc iA BM VE Pc BL lQ=>?_⟩
  .refine⟨_,rfl,_,rfl,(by cases ld <;> rfl),?_,rfl⟩
   show V.bl (decide (V.int z=Xa ld))=V.bl (decide (ld=some z));cases ld with
   | none=>rfl
   | some y =>
    show V.bl (decide (V.int z=V.int y))=V.bl (decide (some y=some z));rw[ZD];congr 1;rw[NR];exact⟨λe=>by rw[e],λe=>(Yi e).symm⟩
  have hxP:x≠Pt:=MH.ne JE (by simp);have v3:=XZ (o:=.lst (IL inc)) lQ
  have BK:=v3 _ _ (Pc _ _ hxP JE);have BJ:=v3 _ _ (Pc _ _ (MH.ne bQ (by simp)) bQ)
  have BI:=v3 _ _ (Pc _ _ (MH.ne kU (by simp)) kU);have BH:(upd BM iA (.lst (IL inc))) iA=some (.lst (IL inc)):=XS
  have BG:WN (upd BM iA (.lst (IL inc))) Pt:=BL.same v3;have II:∀ b o,b≠x->b≠Pt->H b=some o->(upd BM iA (.lst (IL inc))) b=some o:=λb o h1 h2 e=>v3 _ _ (Pc _ _ h2 (bR _ _ h1 e))
  change ∃ _,_;generalize upd BM iA (.lst (IL inc))=BF at *;refine⟨_,rfl,x,_,dx,_,rfl,BK,T.cl_Part,T.n_Part_incoming,(by show 5<1000;decide),?_⟩;have Pb:∀(c:Addr) (o:HO),BF c=some o->(∀ a b fs,o≠.ins a b fs)->c≠x:=λc o h ho e=>by rw[e,BK]at h;exact ho _ _ _ (Yi h).symm
  have lP:(upd BF x (.ins t.A_Part dx (XM "incoming" (.ref iA) [("web",.ref w),("kept",.ref a),("shut",.ref b),("lead",Xa ld),("least",.ref l)]))) uA=some (.lst (IL (VX n ps I O F ld))):=by rw [Za (Pb _ _ BI (by simp))];exact BI
  have fin:∀ fu:Option Int,(fu=none↔VX n ps I O F ld=[])->(∀ y,fu=some y->y∈VX n ps I O F ld/\∀ z∈VX n ps I O F ld,y<=z)->Q .non (upd (upd BF x (.ins t.A_Part dx (XM "incoming" (.ref iA) [("web",.ref w),("kept",.ref a),("shut",.ref b),("lead",Xa ld),("least",.ref l)]))) x (.ins t.A_Part dx (yJ (.ref w) (.ref a) (.ref b) (Xa ld) (.ref l) (.ref iA) (Xa fu)))):=λfu h1 h2=>by
   have up:∀(c:Addr) (o:HO),c≠x->BF c=some o->(upd (upd BF x (.ins t.A_Part dx (XM "incoming" (.ref iA) [("web",.ref w),("kept",.ref a),("shut",.ref b),("lead",Xa ld),("least",.ref l)]))) x (.ins t.A_Part dx (yJ (.ref w) (.ref a) (.ref b) (Xa ld) (.ref l) (.ref iA) (Xa fu)))) c=some o:=λc o h e=>by rw [Za h,Za h];exact e
   obtain⟨tp,t1,t2,t3⟩:=id BG;refine q F inc fu l iA _ hF Vw VE h1 h2 XS (up _ _ (Pb _ _ BJ (by simp)) BJ) (up _ _ (Pb _ _ BH (by simp)) BH) (λb o b1 b2 e=>up _ _ b1 (II b o b1 b2 e)) ⟨tp,up _ _ (Pb _ _ t1 (by simp)) t1,t2,?_⟩;rcases t3 with h | ⟨c,h,h'⟩
   .exact .inl h
   .exact .inr ⟨c,h,up _ _ (Pb _ _ h' (by unfold Hh;simp)) h'⟩
  refine⟨_,rfl,uA,VX n ps I O F ld,rfl,SqL.of lP,λe=>?_,λmn TK Wb=>?_⟩
  .refine⟨_,rfl,x,_,dx,_,rfl,XS,T.cl_Part,T.n_Part_further,(by show 6<1000;decide),?_⟩;exact fin none ⟨λ_=>e,λ_=>rfl⟩ λy h=>by cases h
  .refine⟨_,rfl,x,_,dx,_,rfl,XS,T.cl_Part,T.n_Part_further,(by show 6<1000;decide),?_⟩;exact fin (some mn) ⟨λh=>(by cases h),λh=>(by rw[h]at TK;cases TK)⟩ λy h=>(by cases h;exact⟨TK,Wb⟩)
def lO(K:Ad)(CP C Pt:Addr):Sp:=λvs H Q _=>∃(w:Addr) (n:Int) (ps:Aa),vs=[.ref w]/\WebAt C H w n ps/\Zz n ps/\WN H Pt/\(∃ U,Ze n ps U) /\
 ∀(x:Addr) (F inc:Ac) (ld fu:Option Int) (H':Hp),PartOk n ps [] [] ld F inc fu->(ld=none↔WU n ps [] [] F=[])->(∀ y,ld=some y->y∈WU n ps [] [] F/\∀ z∈WU n ps [] [] F,y<=z)->PartAt K CP C H' x n ps [] [] F inc ld fu->SameX Pt H H'->WN H' Pt->Q (.ref x) H'
theorem BE:FnScope ["web","opened"] ["web"] (XD sZv):=⟨rfl,rfl,rfl,by decide +kernel,rfl,by decide +kernel,by decide +kernel⟩
theorem lN {Pt:Addr} (T:Txt K mg t) (hB:Lw K mg base t.dZu Pt):FnOk P w K mg base Xg 10 t.aZv t.dZv ["web"] (lO K t.A_Part t.A_Web Pt):=by
 refine T.fZv.ok BE (λvs H Q E h=>?_) (λXw A outer s H vs Q E hr h=>?_)
 .obtain⟨w,n,ps,rfl,_⟩:=h;rfl
 .obtain⟨w,n,ps,rfl,hW,hG,hT,⟨U0,GV⟩,q⟩:=h;refine⟨_,(XO (Zi (i:=1) BE.nd rfl (Or.inl rfl) (Xy (BP T) (hr.mono (by decide)) rfl T.mZt T.fZt.kp T.bZt .nil Zu (XY (pv 0) (XY (Xy (Rr T) (hr.mono (by decide)) rfl T.mZe T.fZe.kp T.bZe .nil Zu (XY (pv 0) (XY (UB XX) XX))) (XY (Xy (BS T) (hr.mono (by decide)) rfl T.mZr T.fZr.kp T.bZr .nil Zu (XY (pv 0) (XY (UB XX) (XY (UB XX) XX)))) XX)))))
   (XI (Zj (FG T.k_Part (IK T hB) (hr.mono (by decide)) rfl T.c_Part T.bZu .nil Zu (XY (pv 0) (XY (UB XX) (XY (UB XX) (XY (CQ rfl (by rfl) T.n_min (pv 1)) XX)))))))),?_⟩
  have bP:With n ps [] [] U0:=⟨GV,λz h=>(by cases h),λz h=>(by cases h)⟩;refine⟨_,rfl,_,rfl,Yk _,λe1 DM=>?_⟩;have s1:=XZ (o:=.tup []) DM
  refine⟨w,e1,n,ps,[],rfl,hW.same s1,hG,SqT.of XS,λz h=>(by cases h),λm H2 s2 QL Wb=>?_⟩;have WR:=s1.trans s2
  refine⟨_,rfl,Yk _,λe2 Qb=>⟨Yk _,λe3 he3=>?_⟩⟩;have s3:=XZ (o:=.tup []) Qb
  have s4:=XZ (o:=.tup []) he3;have Ll:=WR.trans (s3.trans s4)
  refine⟨w,e2,e3,n,ps,[],[],rfl,hW.same Ll,hG,SqT.of (s4 _ _ XS),SqT.of XS,.nil,λz h=>(by cases h),λz h=>(by cases h),λH5 s5 h=>absurd bP (h U0),λl F H5 s5 hl hF Vw=>?_⟩;have BU:=Ll.trans s5
  have yf:=((s3.trans s4).trans s5) _ _ Wb;have QJ:(Xs n.toNat (XQ ps [])).length=n.toNat:=ZE _ _
  refine⟨w,m,l,n,ps,Xs n.toNat (XQ ps []),F,rfl,hW.same BU,hG,yf,QJ,SqT.of hl,λpA H6 s6 hp0 lM=>?_⟩;have lM:H6 pA=some (.lst (IL (WU n ps [] [] F))):=lM
  refine nm ?_;dsimp only [List.set];have s16:=BU.trans s6
  have Qd:∀ z∈WU n ps [] [] F,0<=z/\z<(ps.length:Int):=λz hz=>CL hz;refine⟨_,rfl,Yk _,λf1 yn=>⟨Yk _,λf2 ML=>?_⟩⟩;have s7:=XZ (o:=.tup []) yn
  have s8:=XZ (o:=.tup []) ML;have IG:(upd (upd H6 f1 (.tup [])) f2 (.tup [])) f1=some (.tup []):=s8 _ _ XS
  have IF:(upd (upd H6 f1 (.tup [])) f2 (.tup [])) f2=some (.tup []):=XS;have x8:=s16.trans (s7.trans s8)
  have hp8:=(s7.trans s8) _ _ lM;generalize upd (upd H6 f1 (.tup [])) f2 (.tup [])=H8 at *;have main:∀ ld:Option Int,(ld=none↔WU n ps [] [] F=[])->(∀ y,ld=some y->y∈WU n ps [] [] F/\∀ z∈WU n ps [] [] F,y<=z)->∀ x dx,H8 x=none->H8 dx=none->dx≠x->b9 K t.A_Part t.A_Web Pt [.ref x,.ref w,.ref f1,.ref f2,Xa ld] (upd (upd H8 dx (.own x)) x (.ins t.A_Part dx [])) (λv H2=>v=.non/\Q (.ref x) H2) E0:=by
   intro ld hn hs x dx nx Og MJ;have s9:Same H8 (upd (upd H8 dx (.own x)) x (.ins t.A_Part dx [])):=Zs (XZ Og) (by rwa[Za (XG MJ)])
   have bO:=x8.trans s9;refine⟨x,dx,w,f1,f2,n,ps,[],[],ld,rfl,XS,hW.same bO,hG,hT.same bO,SqT.of (s9 _ _ IG),SqT.of (s9 _ _ IF),.nil,λz h=>(by cases h),λz h=>(by cases h),Yk _,⟨U0,bP⟩,λy hy=>Qd y (hs y hy).1,λe F' Lh Tv=>?_,λF' inc fu l' i' H' Lh Tv VE h1 h2 Va Qu PN keep Pa=>⟨rfl,?_⟩⟩
   .have eF:F'=F:=SM (Vw F' Lh) (Tv F hF);rw[eF];exact hn.mp e
   .have eF:F'=F:=SM (Vw F' Lh) (Tv F hF);subst eF;have sx:SameX Pt H8 H':=λb o hb e=>keep b o (Zb e nx) hb (s9 _ _ e)
    have OZ:WN H8 Pt:=hT.same x8;refine q x F' inc ld fu H' ⟨Lh,Tv,VE,h1,h2⟩ hn hs ⟨dx,w,f1,f2,l',i',Va,(hW.same x8).samex OZ sx,SqT.of (sx _ _ (OZ.ne IG (by simp)) IG),SqT.of (sx _ _ (OZ.ne IF (by simp)) IF),Qu,PN⟩ ((SameX.same x8).trans sx) Pa
  refine⟨_,rfl,pA,WU n ps [] [] F,rfl,SqL.of hp8,λe=>?_,λmn h1 h2=>?_⟩
  .exact main none ⟨λ_=>e,λ_=>rfl⟩ λy h=>by cases h
  .exact main (some mn) ⟨λh=>(by cases h),λh=>(by rw[h]at h1;cases h1)⟩ λy h=>(by cases h;exact⟨h1,h2⟩)
def lL(K:Ad)(CP C Pt:Addr):Sp:=λvs H Q _=>∃(x:Addr) (n:Int) (ps:Aa) (I O F inc:Ac) (z y:Int),vs=[.ref x]/\PartAt K CP C H x n ps I O F inc (some z) (some y)/\Zz n ps/\WN H Pt/\(I).Nodup/\(∀ v∈I,0<=v/\v<(ps.length:Int))/\(∀ v∈I,v∉O++[z])/\(O++[z]).length<=30/\(∃ U,With n ps (I) (O++[z]) U)/\0<=y/\y<(ps.length:Int) /\
 ∀(x':Addr) (F' Wd:Ac) (fu:Option Int) (H':Hp),PartOk n ps (I) (O++[z]) (some y) F' Wd fu->PartAt K CP C H' x' n ps (I) (O++[z]) F' Wd (some y) fu->SameX Pt H H'->WN H' Pt->Q (.ref x') H'
theorem lK:FnScope ["part"] ["part"] (XD sZw):=⟨rfl,rfl,rfl,by decide +kernel,rfl,by decide +kernel,by decide +kernel⟩
theorem lJ {Pt:Addr} (T:Txt K mg t) (hB:Lw K mg base t.dZu Pt):FnOk P w K mg base Xg 10 t.aZw t.dZw ["part"] (lL K t.A_Part t.A_Web Pt):=by
 refine T.fZw.ok lK (λvs H Q E h=>?_) (λXw A outer s H vs Q E hr h=>?_)
 .obtain⟨x,n,ps,I,O,F,inc,z,y,rfl,_⟩:=h;rfl
 .obtain⟨x,n,ps,I,O,F,inc,z,y,rfl,⟨dx,w,a,b,l,i,hx,hW,hA,Rn,hl,hi⟩,hG,hT,hIn,Xn,UN,Of,hex,y0,y1,q⟩:=h;refine⟨_,(XI (Zj (FG T.k_Part (IK T hB) (hr.mono (by decide)) rfl T.c_Part T.bZu .nil Zu (XY (Zo K (pv 0) rfl) (XY (Zo K (pv 0) rfl) (XY (Zr (JI K) (Zo K (pv 0) rfl) (UB (XY (Zo K (pv 0) rfl) XX))) (XY (Zo K (pv 0) rfl) XX))))))),?_⟩;have lI:I.length<=30:=by
   have:=LM (m:=VP ps.length) hIn λv hv=>Xk.mpr (Xn v hv)
   have e:=hG.2.2.1;rw[ZR]at this
   try simp only [Xv,Yp]at this
   lia
  have Pk:O.length<=30:=by
   have:=Of
   try simp only [Xv,Yp]at this
   lia
  refine⟨_,rfl,x,_,dx,_,.ref w,rfl,hx,T.cl_Part,T.n_Part_web,rfl,_,rfl,x,_,dx,_,.ref a,rfl,hx,T.cl_Part,T.n_Part_kept,rfl,_,rfl,x,_,dx,_,.ref b,rfl,hx,T.cl_Part,T.n_Part_shut,rfl,_,rfl,x,_,dx,_,.int z,rfl,hx,T.cl_Part,T.n_Part_lead,rfl,(by show 1<=sizeLine;decide),λp hp=>?_⟩;have s1:=XZ (o:=.tup (IL [z])) hp
  refine CM (l:=O) (m:=[z]) (SqK.same (k:=true) s1 Rn) (SqT.of XS) (by rw[Yp];lia) λr1 H2 s2 VH=>?_;have WR:=s1.trans s2
  refine⟨_,rfl,x,_,dx,_,.int y,rfl,WR _ _ hx,T.cl_Part,T.n_Part_further,rfl,?_⟩;intro x' MG nx Og MJ;have s9:Same H2 (upd (upd H2 MG (.own x')) x' (.ins t.A_Part MG [])):=Zs (XZ Og) (by rwa[Za (XG MJ)])
  have Wc:WN H2 Pt:=hT.same WR;refine⟨x',MG,w,a,r1,n,ps,I,O++[z],some y,rfl,XS,hW.same (WR.trans s9),hG,Wc.same s9,SqK.same (k:=true) (WR.trans s9) hA,SqK.same (k:=true) s9 VH,hIn,Xn,UN,Of,hex,λv e=>(by cases e;exact⟨y0,y1⟩),λe=>(by cases e),λF' Wd fu l' i' H' Lh Tv VE h1 h2 Va Qu PN keep Pa=>⟨rfl,?_⟩⟩;have sx:SameX Pt H2 H':=λb o hb e=>keep b o (Zb e nx) hb (s9 _ _ e)
  exact q x' F' Wd fu H' ⟨Lh,Tv,VE,h1,h2⟩ ⟨MG,w,a,r1,l',i',Va,(hW.same WR).samex Wc sx,SqK.samex (kd:=true) (SqK.same (k:=true) WR hA) Wc sx,SqK.samex (kd:=true) (VH) Wc sx,Qu,PN⟩ ((SameX.same WR).trans sx) Pa
def lH(K:Ad)(CP C Pt:Addr):Sp:=λvs H Q _=>∃(x:Addr) (n:Int) (ps:Aa) (I O F inc:Ac) (z y:Int),vs=[.ref x]/\PartAt K CP C H x n ps I O F inc (some z) (some y)/\Zz n ps/\WN H Pt/\(I++[z]).Nodup/\(∀ v∈I++[z],0<=v/\v<(ps.length:Int))/\(∀ v∈I++[z],v∉O)/\(O).length<=30/\(∃ U,With n ps (I++[z]) (O) U)/\0<=y/\y<(ps.length:Int) /\
 ∀(x':Addr) (F' Wd:Ac) (fu:Option Int) (H':Hp),PartOk n ps (I++[z]) (O) (some y) F' Wd fu->PartAt K CP C H' x' n ps (I++[z]) (O) F' Wd (some y) fu->SameX Pt H H'->WN H' Pt->Q (.ref x') H'
theorem lG:FnScope ["part"] ["part"] (XD sZx):=⟨rfl,rfl,rfl,by decide +kernel,rfl,by decide +kernel,by decide +kernel⟩
theorem lF {Pt:Addr} (T:Txt K mg t) (hB:Lw K mg base t.dZu Pt):FnOk P w K mg base Xg 10 t.aZx t.dZx ["part"] (lH K t.A_Part t.A_Web Pt):=by
 refine T.fZx.ok lG (λvs H Q E h=>?_) (λXw A outer s H vs Q E hr h=>?_)
 .obtain⟨x,n,ps,I,O,F,inc,z,y,rfl,_⟩:=h;rfl
 .obtain⟨x,n,ps,I,O,F,inc,z,y,rfl,⟨dx,w,a,b,l,i,hx,hW,hA,Rn,hl,hi⟩,hG,hT,hIn,Xn,UN,Of,hex,y0,y1,q⟩:=h;refine⟨_,(XI (Zj (FG T.k_Part (IK T hB) (hr.mono (by decide)) rfl T.c_Part T.bZu .nil Zu (XY (Zo K (pv 0) rfl) (XY (Zr (JI K) (Zo K (pv 0) rfl) (UB (XY (Zo K (pv 0) rfl) XX))) (XY (Zo K (pv 0) rfl) (XY (Zo K (pv 0) rfl) XX))))))),?_⟩;have lI:I.length<=30:=by
   have:=LM (m:=VP ps.length) hIn λv hv=>Xk.mpr (Xn v hv)
   have e:=hG.2.2.1;rw[ZR]at this
   try simp only [Xv,Yp]at this
   lia
  have Pk:O.length<=30:=by
   have:=Of
   try simp only [Xv,Yp]at this
   lia
  refine⟨_,rfl,x,_,dx,_,.ref w,rfl,hx,T.cl_Part,T.n_Part_web,rfl,_,rfl,x,_,dx,_,.ref a,rfl,hx,T.cl_Part,T.n_Part_kept,rfl,_,rfl,x,_,dx,_,.int z,rfl,hx,T.cl_Part,T.n_Part_lead,rfl,(by show 1<=sizeLine;decide),λp hp=>?_⟩;have s1:=XZ (o:=.tup (IL [z])) hp
  refine CM (l:=I) (m:=[z]) (SqK.same (k:=true) s1 hA) (SqT.of XS) (by rw[Yp];lia) λr1 H2 s2 VH=>?_;have WR:=s1.trans s2
  refine⟨_,rfl,x,_,dx,_,.ref b,rfl,WR _ _ hx,T.cl_Part,T.n_Part_shut,rfl,_,rfl,x,_,dx,_,.int y,rfl,WR _ _ hx,T.cl_Part,T.n_Part_further,rfl,?_⟩;intro x' MG nx Og MJ;have s9:Same H2 (upd (upd H2 MG (.own x')) x' (.ins t.A_Part MG [])):=Zs (XZ Og) (by rwa[Za (XG MJ)])
  have Wc:WN H2 Pt:=hT.same WR;refine⟨x',MG,w,r1,b,n,ps,I++[z],O,some y,rfl,XS,hW.same (WR.trans s9),hG,Wc.same s9,SqK.same (k:=true) s9 VH,SqK.same (k:=true) (WR.trans s9) Rn,hIn,Xn,UN,Of,hex,λv e=>(by cases e;exact⟨y0,y1⟩),λe=>(by cases e),λF' Wd fu l' i' H' Lh Tv VE h1 h2 Va Qu PN keep Pa=>⟨rfl,?_⟩⟩;have sx:SameX Pt H2 H':=λb o hb e=>keep b o (Zb e nx) hb (s9 _ _ e)
  exact q x' F' Wd fu H' ⟨Lh,Tv,VE,h1,h2⟩ ⟨MG,w,r1,b,l',i',Va,(hW.same WR).samex Wc sx,SqK.samex (kd:=true) (VH) Wc sx,SqK.samex (kd:=true) (SqK.same (k:=true) WR Rn) Wc sx,Qu,PN⟩ ((SameX.same WR).trans sx) Pa
def lE(K:Ad)(CP C:Addr):Sp:=λvs H Q _=>∃(x:Addr) (n:Int) (ps:Aa) (I O F inc:Ac) (ld fu:Option Int),vs=[.ref x]/\PartAt K CP C H x n ps I O F inc ld fu/\Zz n ps/\I.Nodup/\(∀ z∈I,0<=z/\z<(ps.length:Int))/\O.length<=30/\(∀ z∈I,z∉O)/\∀(c:Nat) (H':Hp),PC n ps I O c->Same H H'->Q (.int c) H'
theorem lD:FnScope ["part"] ["part"] (XD sZy):=⟨rfl,rfl,rfl,by decide +kernel,rfl,by decide +kernel,by decide +kernel⟩
theorem lC (T:Txt K mg t):FnOk P w K mg base Xg 8 t.aZy t.dZy ["part"] (lE K t.A_Part t.A_Web):=by
 refine T.fZy.ok lD (λvs H Q E h=>?_) (λXw A outer s H vs Q E hr h=>?_)
 .obtain⟨x,n,ps,I,O,F,inc,ld,fu,rfl,_⟩:=h;rfl
 .obtain⟨x,n,ps,I,O,F,inc,ld,fu,rfl,⟨dx,w,a,b,l,i,hx,hW,hA,Rn,hl,hi⟩,hG,hI,Xn,hO,UN,q⟩:=h;refine⟨_,(XI (Zj (Xy (mH T) (hr.mono (by decide)) rfl T.mZk T.fZk.kp T.bZk .nil Zu (XY (Zo K (pv 0) rfl) (XY (Zo K (pv 0) rfl) (XY (Zo K (pv 0) rfl) XX)))))),?_⟩;refine⟨_,rfl,x,_,dx,_,.ref w,rfl,hx,T.cl_Part,T.n_Part_web,rfl,_,rfl,x,_,dx,_,.ref a,rfl,hx,T.cl_Part,T.n_Part_kept,rfl,_,rfl,x,_,dx,_,.ref b,rfl,hx,T.cl_Part,T.n_Part_shut,rfl,?_⟩;exact⟨w,a,b,n,ps,I,O,rfl,hW,hG,hA,Rn,hI,Xn,hO,UN,q⟩
theorem lB{n:Int}{ps:Aa}{I F ms:Ac}{z:Int}(hF:Ze n ps F)(hz:z∉F)(hp:ms.Perm (UW n ps F z F++[z]))(hs:ms.Pairwise (·<=·)):(ms.filter λt=>decide (t≠z/\t∉I))=WM n ps I F z:=by
 refine EB ((hp.filter _).trans ?_) (hs.filter _) ?_
 .rw[Rf,List.filter_cons_of_neg (by simp),As,YE];refine List.Perm.of_eq (Ms λt ht=>?_)
  have:t≠z:=λe=>hz (e ▸ (Xl.mp ht).1)
  simp[this]
 .exact((XU.mp hF.1).2.filter _).filter _ |>.imp λh=>by lia
def lz(K:Ad)(CP C:Addr):Sp:=λvs H Q _=>∃(x:Addr) (n:Int) (ps:Aa) (I O F inc:Ac) (ld fu:Option Int) (z:Int),vs=[.ref x,.int z]/\PartAt K CP C H x n ps I O F inc ld fu/\Zz n ps/\Ze n ps F/\z∉F/\0<=z/\z<(ps.length:Int) /\
 ∀(r:Addr) (xs:List V) (H':Hp),Same H H'->H r=none->H' r=some (.lst xs)->Bears (VA H') xs ((WM n ps I F z).map λo=>xchT F o z)->Q (.ref r) H'
theorem BD:FnScope ["part","into","leaving"] ["part","into"] (XD sZz):=⟨rfl,rfl,rfl,by decide +kernel,rfl,by decide +kernel,by decide +kernel⟩
theorem ly (T:Txt K mg t):FnOk P w K mg base Xg 9 t.aZz t.dZz ["part","into"] (lz K t.A_Part t.A_Web):=by
 refine T.fZz.ok BD (λvs H Q E h=>?_) (λXw A outer s H vs Q E hr h=>?_)
 .obtain⟨x,n,ps,I,O,F,inc,ld,fu,z,rfl,_⟩:=h;rfl
 .obtain⟨x,n,ps,I,O,F,inc,ld,fu,z,rfl,⟨dx,w,a,b,l,i,hx,hW,hA,Rn,hl,hi⟩,hG,hF,hz,z0,z1,q⟩:=h;refine⟨_,(XO (OE (i:=2) rfl BD.nd rfl rfl (sc0:=XD sZz) (N0:=["part","into","leaving"]) (N':=["tie","into","part"]) (o:=1) (fr:=[1,0]) ⟨rfl,by decide +kernel,by decide +kernel,by decide +kernel,rfl,by decide +kernel⟩ (JQ K (Xy (IM T) (hr.mono (by decide)) rfl T.mZp T.fZp.kp T.bZp .nil Zu (XY (Zo K (pv 0) rfl) (XY (Zo K (pv 0) rfl) (XY (pv 1) XX))))) (Zp (by decide)) (λ_ _ _ _=>(Zc (i:=0) (show List.Nodup (["tie","into","part"]:List Str) by decide +kernel) rfl (Or.inl rfl))) (λ_ _ _ _=>(Wl (PW.pt (HK (Zf Wo (pv 0) (pv 1) (Zt _)) (RT (Zf (ZC K) (pv 0) (Zo K (pv 2) rfl) rfl)))))) (λ_ _ _ _=>(pv 0)))
   (XI (Zj (Vt rfl (sc0:=XD sZz) (N0:=["part","into","leaving"]) (N':=["out","part","into"]) (o:=1) (fr:=[0,1]) ⟨rfl,by decide +kernel,by decide +kernel,by decide +kernel,rfl,by decide +kernel⟩ (ZI K (pv 2)) (Zp (by decide)) (λ_ _ _ _=>(Zc (i:=0) (show List.Nodup (["out","part","into"]:List Str) by decide +kernel) rfl (Or.inl rfl))) (λ_ _ _ _=>ZU) (λ_ _ _ _=>(Zm (ZG K) (by rfl) T.n_tuple Boot.«tuple» (XY (Zg (gz K) (by rfl) T.n_sorted Boot.«sorted» (XY (Zr (JI K) (Xy (IY T) (hr.mono (by decide)) rfl T.mZa T.fZa.kp T.bZa .nil Zu (XY (Zo K (pv 1) rfl) (XY (pv 0) XX))) (UB (XY (pv 2) XX))) XX)) XX))))))),?_⟩
  have big:(30:Int)<10 ^ 70:=by decide
  have g3:=hG.2.2.1;refine⟨_,rfl,x,_,dx,_,.ref w,rfl,hx,T.cl_Part,T.n_Part_web,rfl,_,rfl,x,_,dx,_,.ref l,rfl,hx,T.cl_Part,T.n_Part_least,rfl,_,rfl,?_⟩;refine⟨w,l,n,ps,true,F,z,rfl,hW,hG,SqT.of hl,by omega,by lia,λ_ _ _ _ ms TK Wb rA H1 s1 Vf SF=>?_,λ_ h=>absurd h (λh=>h.elim hz λh=>h ⟨z0,z1⟩),λh=>absurd hF h⟩;have hm30:ms.length<=40:=by
   rw[TK.length_eq,Xv,Yp]
   have:=TU n ps F z F
   have:=hF.1.len
   lia
  refine⟨rA,rfl,⟨_,SqT.of SF⟩,JS (K:=K) (a:=rA) (xs:=IL ms) (λj ws H2=>H2=H1/\j<=ms.length/\ws=IL ((ms.take j).filter λt=>decide (t≠z/\t∉I))) ⟨rfl,Yk _,rfl⟩ (Zh (by rw[XB];lia))
   (λj ws H2 hj h=>by obtain⟨e,SK,ew⟩:=h;exact⟨e ▸ SqT.of SF,by rw[ew,XB];exact Yv (YF ..) (by rw[Yj];lia)⟩) ?_ ?_⟩
  .rintro j v ws H2 hj ⟨rfl,Ow,rfl⟩ S Xq;obtain⟨y,rfl,hy⟩:=ZW hj;have WT:j<ms.length:=(Xm.mp hy).1
   refine nm ?_;refine⟨_,rfl,_,rfl,rfl,_,rfl,?_⟩;rw[ZD];refine WX (λhe=>?_) (λhe=>?_)
   .refine Xq _ _ ⟨rfl,WT,?_⟩;rw[Zw hy,if_neg (by simp[he]),YE]
   refine⟨_,rfl,_,rfl,x,_,dx,_,.ref a,rfl,s1 _ _ hx,T.cl_Part,T.n_Part_kept,rfl,a,_,rfl,.inr (SqK.same (k:=true) s1 hA),rfl,Zq _,_,rfl,?_⟩;rw[Zy];refine WX (λhc=>?_) (λhc=>?_)
   .refine Xq _ _ ⟨rfl,WT,?_⟩;rw[Zw hy,if_neg (by simp[hc]),YE]
   .refine⟨_,rfl,Xq _ _ ⟨rfl,WT,?_⟩⟩;rw[Zw hy,if_pos (Yr ⟨he,hc⟩),ZK]
  rintro ws H2 ⟨rfl,_,rfl⟩ lA BC;rw[XB,YA,lB hF hz TK Wb];have u1:=XZ (o:=.lst (IL (WM n ps I F z))) BC
  have kL:(upd H2 lA (.lst (IL (WM n ps I F z)))) lA=some (.lst (IL (WM n ps I F z))):=XS;refine nm ?_;dsimp only [List.set];have s2:=s1.trans u1
  change Gi _ _ _ (upd H2 lA (.lst (IL (WM n ps I F z))));generalize upd H2 lA (.lst (IL (WM n ps I F z)))=H3 at *;have lvl:(WM n ps I F z).length<=30:=Yv (YF ..) (by have:=TU n ps F z F;have:=hF.1.len;lia)
  have IE:F.length<=30:=by have:=hF.1.len;lia
  refine⟨_,rfl,lA,rfl,⟨_,SqL.of kL⟩,Sr (K:=K) (a:=lA) (xs:=IL (WM n ps I F z)) (λj ys H4=>Same H3 H4/\j<=(WM n ps I F z).length/\Bears (VA H4) ys (((WM n ps I F z).take j).map λo=>xchT F o z)) ⟨Same.refl _,Yk _,⟨rfl,λi l e=>by simp at e⟩⟩ (Zh (by rw[XB];lia))
   (λj ys H4 hj h=>by obtain⟨e,SK,ey⟩:=h;exact⟨SqL.of (e _ _ kL),by rw[ey.1,Ya,Yj];lia⟩) ?_ ?_⟩
  .rintro j v ys H4 hj ⟨s4,Ow,hY⟩ S Xq;obtain⟨o,rfl,ho⟩:=ZW hj;have WT:j<(WM n ps I F z).length:=(Xm.mp ho).1
   have Lm:=s2.trans s4;refine nm ?_;refine⟨_,rfl,x,_,dx,_,.ref l,rfl,Lm _ _ hx,T.cl_Part,T.n_Part_least,rfl,_,rfl,l,true,F,o,rfl,SqT.of (Lm _ _ hl),by lia,λr1 H5 s5 l9 VH=>?_⟩;have wl:=PM F o
   refine⟨_,rfl,(by show 1<=sizeLine;decide),λp2 Wg=>?_⟩;have s6:=XZ (o:=.tup (IL [z])) Wg
   refine CM (l:=wo F o) (m:=[z]) (SqT.of (s6 _ _ VH)) (SqT.of XS) (by rw[Yp];lia) λr3 H7 s7 Sf=>?_;refine⟨r3,wo F o++[z],rfl,Sf,by rw[Xv,Yp];lia,λns Cc OL p4 Ue=>?_⟩;have en:ns=xchT F o z:=EB (Cc.trans (Lv F o z).symm) OL (Rv F o z)
   subst en;have s8:=XZ (o:=.lst (IL (xchT F o z))) Ue
   refine⟨p4,_,rfl,.inl ⟨SqL.of XS,λp5 yw=>?_⟩⟩;have s9:=XZ (o:=.tup (IL (xchT F o z))) yw
   have sA:=(s5.trans s6).trans (s7.trans (s8.trans s9));refine Xq _ _ ⟨s4.trans sA,WT,?_⟩;rw[YL,ho,YJ];exact(hY.imp λ_ _ h=>by obtain⟨q,e,hq⟩:=h;exact⟨q,e,sA _ _ hq⟩).snoc ⟨p5,rfl,XS⟩
  .rintro ys H4 ⟨s4,_,hY⟩ d hd;rw[XB,YA]at hY;have s5:=XZ (o:=.lst ys) hd
   exact q d ys _ (s2.trans (s4.trans s5)) ((s2.trans s4).free hd) XS (hY.imp λ_ _ h=>by obtain⟨q,e,hq⟩:=h;exact⟨q,e,s5 _ _ hq⟩)
theorem bN{α:Type}{R:V->α->Prop}{xs ys:List V}{l m:List α}(h1:Bears R xs l)(h2:Bears R ys m):Bears R (xs++ys) (l++m):=by
 refine⟨by rw[Xv,Xv,h1.1,h2.1],λi a e=>?_⟩;by_cases c:i<l.length
 .rw[Yu c]at e;obtain⟨v,hv,r⟩:=h1.2 i a e;exact⟨v,by rw[Yu (by rwa[h1.1])];exact hv,r⟩
 .rw[Ys (by lia)]at e;obtain⟨v,hv,r⟩:=h2.2 _ a e;exact⟨v,by rw[Ys (by rw[h1.1];lia),h1.1];exact hv,r⟩
theorem bM{α:Type}{R:V->α->Prop}{xs:List V}{l:List α}(h:Bears R xs l):Bears R xs.reverse l.reverse:=by
 refine⟨by rw[YR,YR,h.1],λi a e=>?_⟩;have hi:i<l.length:=by have:=(Xm.mp e).1;rwa[YR]at this
 rw[Ih hi]at e;obtain⟨v,hv,r⟩:=h.2 _ a e;exact⟨v,by rw[Ih (by rwa[h.1]),h.1];exact hv,r⟩
def lx(K:Ad)(CP C:Addr):Sp:=λvs H Q _=>∃(x:Addr) (n:Int) (ps:Aa) (I O F inc:Ac) (ld fu:Option Int),vs=[.ref x]/\PartAt K CP C H x n ps I O F inc ld fu/\Zz n ps/\Ze n ps F/\inc.length<=30/\(∀ z∈inc,z∉F/\0<=z/\z<(ps.length:Int)) /\
 ∀(r:Addr) (xs:List V) (H':Hp),Same H H'->H r=none->H' r=some (.lst xs)->Bears (VA H') xs (CI n ps I F inc)->Q (.ref r) H'
theorem Rm:FnScope ["part","row","ascending","into","trees"] ["part"] (XD sZA):=⟨rfl,rfl,rfl,by decide +kernel,rfl,by decide +kernel,by decide +kernel⟩
theorem lu (T:Txt K mg t):FnOk P w K mg base Xg 10 t.aZA t.dZA ["part"] (lx K t.A_Part t.A_Web):=by
 refine T.fZA.ok Rm (λvs H Q E h=>?_) (λXw A outer s H vs Q E hr h=>?_)
 .obtain⟨x,n,ps,I,O,F,inc,ld,fu,rfl,_⟩:=h;rfl
 .obtain⟨x,n,ps,I,O,F,inc,ld,fu,rfl,Lg,hG,hF,Vh,Tz,q⟩:=h;refine⟨_,(XO (Zi (i:=1) Rm.nd rfl (Or.inl rfl) (UA (XY (Zo K (pv 0) rfl) XX)))
   (XO (Zi (i:=2) Rm.nd rfl (Or.inl rfl) (NG VD (Zr ZO (Zg (Zl K) (by rfl) T.n_len Boot.«len» (XY (Zo K (pv 0) rfl) XX)) XN) XN (Zt _)))
   (XO (Vb YQ rfl (ZI K (Zo K (pv 0) rfl)) (Zc (i:=3) Rm.nd rfl (Or.inl rfl))
   (XO (Zi (i:=4) Rm.nd rfl (Or.inl rfl) (Xy (ly T) (hr.mono (by decide)) rfl T.mZz T.fZz.kp T.bZz .nil Zu (XY (pv 0) (XY (pv 3) XX))))
   (XO (ZN (Ui K YW jf jg g7 (pv 1) (XY (wz (Qr (pv 2)) (pv 4) (gG K rfl rfl T.n_list rfl T.n_reversed (XY (pv 4) XX))) XX)))
   (XI (Zi (i:=2) Rm.nd rfl (Or.inl rfl) (wB (pv 2)))))))
   (XI (Zj (pv 1)))))),?_⟩
  obtain⟨dx,w,a,b,l,i,hx,hW,hA,Rn,hl,hi⟩:=id Lg;refine⟨_,rfl,x,_,dx,_,.ref l,rfl,hx,T.cl_Part,T.n_Part_least,rfl,(by show 1<=sizeLine;decide),λr hr=>?_⟩;have s1:=XZ (o:=.lst [.ref l]) hr
  refine nm ?_;dsimp only [List.set];refine⟨_,rfl,x,_,dx,_,.ref i,rfl,s1 _ _ hx,T.cl_Part,T.n_Part_incoming,rfl,i,_,rfl,.inl (SqL.of (s1 _ _ hi)),_,_,rfl,rfl,(by show(0:Int)<2;decide),rfl,?_⟩;refine nm ?_;dsimp only [List.set];have ea:decide (V.int ((IL inc).length % 2:Int)=V.int 1)=(inc.length % 2 == 1):=by rw[ZD,XB,Sa,YM,VT];omega
  change UG _ _ _ [some (.ref x),some (.ref r),some (.bl (decide (V.int ((IL inc).length % 2:Int)=V.int 1))),none,none] (upd H r (.lst [.ref l]));rw[ea];generalize SH:(inc.length % 2 == 1)=asc at *;have kr:(upd H r (.lst [.ref l])) r=some (.lst [.ref l]):=XS
  generalize upd H r (.lst [.ref l])=H1 at *;have so:=s1 _ _ hi
  have fresh:∀ b o,H b=some o->b≠r:=λb o e=>Zb e hr;refine⟨_,rfl,x,_,dx,_,.ref i,rfl,s1 _ _ hx,T.cl_Part,T.n_Part_incoming,rfl,i,rfl,⟨_,SqL.of so⟩,HJ (K:=K) (a:=i) (xs:=IL inc) (λj σ H2=>∃(xs:List V) (v3 v4:Option V),σ=[some (.ref x),some (.ref r),some (.bl (asc != (j % 2 == 1))),v3,v4]/\Same H H2/\H2 r=some (.lst xs)/\Bears (VA H2) xs (F :: Vv n ps I F (inc.take j) asc)) ⟨[.ref l],none,none,by cases asc <;> rfl,s1,kr,⟨rfl,λj m e=>by
   match j,e with
   | 0,e=>exact⟨_,rfl,l,rfl,by rw[<- Yi e];exact s1 _ _ hl⟩⟩⟩ (λj σ H2 _ h=>by obtain⟨_,_,_,_,e,_⟩:=h;exact SqL.of (e _ _ hi)) ?_ ?_⟩
  rotate_left
  .rintro σ H2 ⟨xs,v3,v4,rfl,s2,Vy,hX⟩;rw[XB,YA]at hX;refine So ?_;refine⟨_,rfl,?_⟩;rw[<- SH]at hX;exact q r xs H2 s2 hr Vy hX
  rintro j v σ H2 hj ⟨xs,v3,v4,rfl,s2,Vy,hX⟩;obtain⟨z,rfl,hz⟩:=ZW hj;obtain⟨zF,z0,z1⟩:=Tz z (Xi hz);have tD:j<inc.length:=(Xm.mp hz).1
  refine nm ?_;dsimp only [List.set];refine⟨_,rfl,_,rfl,x,n,ps,I,O,F,inc,ld,fu,z,rfl,⟨dx,w,a,b,l,i,s2 _ _ hx,hW.same s2,SqK.same (k:=true) s2 hA,SqK.same (k:=true) s2 Rn,s2 _ _ hl,s2 _ _ hi⟩,hG,hF,zF,z0,z1,λtA ys H3 s3 ht0 Vr hY=>?_⟩;refine nm ?_;dsimp only [List.set];have Sf:=s3 _ _ Vy
  have BB:F.length<=30:=by have:=hF.1.len;have:=hG.2.2.1;lia
  have xl:xs.length<=1000:=by
   rw[hX.1,Yt];have h1:=dD n ps I F (inc.take j) asc
   have h2:(inc.take j).length * F.length<=30 * 30:=KW (by rw[Yj];grind) BB;lia
  have yl:ys.length<=30:=by rw[hY.1,Ya];exact Yv (YF ..) (Yv (TU n ps F z F) BB)
  have lr:Vv n ps I F (inc.take (j+1)) asc=Vv n ps I F (inc.take j) asc++VV n ps I F (asc != (j % 2 == 1)) z:=by
   have e:inc.take (j+1)=inc.take j++[z]:=by rw[YL,hz];rfl
   have el:(inc.take j).length=j:=by rw[Yj];lia
   rw[e,Jh,el]
  have flip:(!(asc != (j % 2 == 1)))=(asc != ((j+1) % 2 == 1)):=by rcases(by grind:j % 2=0/\(j+1) % 2=1\/j % 2=1/\(j+1) % 2=0) with ⟨a,b⟩ | ⟨a,b⟩ <;> rw[a,b] <;> cases asc <;> rfl
  have fin:∀(zs:List V) (H4:Hp),Same H3 H4->zs.length=ys.length->Bears (VA H4) zs (VV n ps I F (asc != (j % 2 == 1)) z)->Same H (upd H4 r (.lst (xs++zs)))/\Bears (VA (upd H4 r (.lst (xs++zs)))) (xs++zs) (F :: Vv n ps I F (inc.take (j+1)) asc):=λzs H4 s4 mC hZ=>by
   have Lp:=s4 _ _ Sf;refine⟨ZA hr ((s2.trans s3).trans s4),?_⟩;rw[lr];have hX4:Bears (VA H4) xs (F :: Vv n ps I F (inc.take j) asc):=hX.imp λ_ _ h=>by obtain⟨c,e,hc⟩:=h;exact⟨c,e,(s3.trans s4) _ _ hc⟩
   exact(bN hX4 hZ).imp λ_ _ h=>by obtain⟨c,e,hc⟩:=h;exact⟨c,e,by rwa[Za (VG hc Lp (by simp))]⟩
  refine⟨_,rfl,.inl ⟨rfl,_,SqL.of Sf⟩,?_⟩;cases hb:(asc != (j % 2 == 1)) with
  | true =>
   rw[hb]at fin flip;refine⟨_,rfl,_,rfl,?_⟩;refine Wf ?_;refine⟨_,rfl,?_⟩;obtain⟨f1,f2⟩:=fin ys H3 (Same.refl _) rfl hY;refine⟨r,tA,xs,ys,rfl,rfl,Sf,Vr,OA (by lia),?_⟩;refine⟨_,rfl,_,rfl,?_⟩;exact⟨xs++ys,_,_,by rw[<- flip];rfl,f1,XS,f2⟩
  | false =>
   rw[hb]at fin flip;refine⟨_,rfl,_,rfl,?_⟩;refine Uz ?_;refine⟨_,rfl,tA,ys,rfl,SqL.of Vr,λd hd=>?_⟩;have s4:=XZ (o:=.lst ys.reverse) hd
   obtain⟨f1,f2⟩:=fin ys.reverse _ s4 (YR) (bM (hY.imp λ_ _ h=>by obtain⟨c,e,hc⟩:=h;exact⟨c,e,s4 _ _ hc⟩));refine⟨r,d,xs,ys.reverse,rfl,rfl,s4 _ _ Sf,XS,OA (by rw[YR];lia),?_⟩;refine⟨_,rfl,_,rfl,?_⟩;exact⟨xs++ys.reverse,_,_,by rw[<- flip];rfl,f1,XS,f2⟩
def ID(K:Ad)(CP C Pt:Addr)(d:Nat):Sp:=λvs H Q _=>∃(x:Addr) (n:Int) (ps:Aa) (I O F inc:Ac) (ld fu:Option Int) (R:Ab) (size start stop:Int),vs=[.ref x,.int size,.int start,.int stop]/\PartAt K CP C H x n ps I O F inc ld fu/\PartOk n ps I O ld F inc fu/\Zz n ps/\WN H Pt/\RowR n ps d I O ld R/\size=R.length/\0<=start/\stop<=size/\stop - start<=100000 /\
 ∀(r:Addr) (xs:List V) (H':Hp),SameX Pt H H'->WN H' Pt->H r=none->H' r=some (.lst xs)->Bears (VA H') xs ((R.drop start.toNat).take (stop - start).toNat)->Q (.ref r) H'
theorem BA(xs:List V){a b:Nat}(h2:b<=xs.length):Xh xs (some (a:Int)) (some (b:Int))=(xs.drop a).take (b - a):=by
 have e1:HT.VC xs.length 0 (some (a:Int))=min a xs.length:=rfl;have e2:HT.VC xs.length xs.length (some (b:Int))=min b xs.length:=rfl
 unfold Xh;rw[e1,e2,GC h2];rcases Nat.le_total a xs.length with c | c
 .rw[GC c]
 .rw[xu c,xM (XJ _),xM c,xf,xf]
theorem ZL8{α:Type}{R:V->α->Prop}{xs:List V}{l:List α}(h:Bears R xs l)(a b:Nat):Bears R ((xs.drop a).take b) ((l.drop a).take b):=by
 refine⟨by rw[Yj,Yj,Wx,Wx,h.1],λi x e=>?_⟩;rw[GK]at e;by_cases c:i<b
 .rw[if_pos c,AA]at e;obtain⟨v,hv,r⟩:=h.2 _ x e;exact⟨v,by rw[GK,if_pos c,AA];exact hv,r⟩
 .rw[if_neg c]at e;cases e
theorem lq{α:Type}(A B:List α){a b:Nat}(h:b<=A.length):((A++B).drop a).take (b - a)=(A.drop a).take (b - a):=by
 rcases Nat.le_total a A.length with c | c
 .rw[xT c,GO (by rw[Wx];exact Nat.sub_le_sub_right h a)]
 .rw[Nat.sub_eq_zero_of_le (Yv h c),xk,xk]
theorem bL{α:Type}(B:List α){i k:Nat}(h:i+k<=B.length):((B.reverse).drop i).take k=((B.drop (B.length - i - k)).take k).reverse:=by rw[List.drop_reverse,List.take_reverse,Yj,GC (Nat.sub_le _ _),List.drop_take,Nat.sub_sub_self (Nat.le_sub_of_add_le' h)]
theorem lp{α:Type}(A B:List α){a b c:Nat}(hc:(a<=A.length/\c=A.length)\/(A.length<=a/\c=a))(lj:c<=b)(hb:b<=A.length+B.length):((A++B.reverse).drop a).take (b - a)=A.drop a++((B.drop (A.length+B.length - b)).take (b - c)).reverse:=by
 rcases hc with ⟨h,rfl⟩ | ⟨h,rfl⟩
 .rw[xT h,List.take_append,YO (by rw[Wx];exact Nat.sub_le_sub_right lj a),Wx,Nat.sub_sub_sub_cancel_right h]
  have:=bL B (i:=0) (k:=b - A.length) (by grind)
  rw[xj]at this;rw[this,show B.length - 0 - (b - A.length)=A.length+B.length - b by grind]
 .rw[List.drop_append,xM h,Mo,Mo,bL B (by grind),show B.length - (c - A.length) - (b - c)=A.length+B.length - b by grind]
theorem lh{x y:Int}:∃ m,(if x<y then x else y)=m/\m<=x/\m<=y/\(x<y->m=x)/\(¬ x<y->m=y):=by
 by_cases c:x<y
 .exact⟨x,if_pos c,Mi _,HU c,λ_=>rfl,λh=>absurd c h⟩
 .exact⟨y,if_neg c,HR.mp c,Mi _,λh=>absurd h c,λ_=>rfl⟩
theorem bK{H H2:Hp}{Pt r:Addr}{pos:Pos}{qual:Str}(t:TabH H2 Pt pos qual)(s:SameX Pt H H2)(h:H2 r=none):H r=none:=by
 cases e:H r with
 | none=>rfl
 | some o =>
  have XH:r≠Pt:=λe'=>by obtain⟨p,h1,_⟩:=t;rw[<- e',h]at h1;cases h1
  rw[s _ _ XH e]at h;cases h
theorem OY:FnScope ["part","size","start","stop","first","middle","trees","turned"] ["part","size","start","stop"] (XD sZB):=⟨rfl,rfl,rfl,by decide +kernel,rfl,by decide +kernel,by decide +kernel⟩
theorem lg {Pt:Addr} (T:Txt K mg t) (hB:Lw K mg base t.dZu Pt) (d:Nat):FnOk P w K mg base Xg (11+d) t.aZB t.dZB ["part","size","start","stop"] (ID K t.A_Part t.A_Web Pt d):=by
 have key:∀(d k:Nat) (sp:Sp),FnOk P w K mg base Xg k t.aZB t.dZB ["part","size","start","stop"] sp->k<=10+d->(∀ e,d=e+1->sp=ID K t.A_Part t.A_Web Pt e)->FnOk P w K mg base Xg (11+d) t.aZB t.dZB ["part","size","start","stop"] (ID K t.A_Part t.A_Web Pt d):=by
  intro d k sp ih hk Ul;rw[show 11+d=10+d+1 by lia];refine T.fZB.ok OY (λvs H Q E h=>?_) (λXw A outer s H vs Q E hr h=>?_)
  .obtain⟨x,n,ps,I,O,F,inc,ld,fu,R,size,start,stop,rfl,_⟩:=h;rfl
  .obtain⟨x,n,ps,I,O,F,inc,ld,fu,R,size,start,stop,rfl,Lg,QQ,hG,hT,hR,hsz,Hw,JW,NI,q⟩:=h;refine⟨_,(XO (WD (Zf FP (pv 2) (pv 3) (Zt _))
   (XI (Zj (UA XX)))
   Zn)
   (XO (WD (Zf Mb (Zo K (pv 0) rfl) NO (Zt _))
   (XI (Zj (ZY (Vl K) (Xy (lu T) (hr.mono (by omega)) rfl T.mZA T.fZA.kp T.bZA .nil Zu (XY (pv 0) XX)) (RR (pv 2)) (RR (pv 3)))))
   Zn)
   (XO (Zi (i:=4) OY.nd rfl (Or.inl rfl) (Xy (lJ T hB) (hr.mono (by omega)) rfl T.mZw T.fZw.kp T.bZw .nil Zu (XY (pv 0) XX)))
   (XO (Zi (i:=5) OY.nd rfl (Or.inl rfl) (Xy (lC T) (hr.mono (by omega)) rfl T.mZy T.fZy.kp T.bZy .nil Zu (XY (pv 4) XX)))
   (XO (Zi (i:=6) OY.nd rfl (Or.inl rfl) (Xy ih (hr.mono (by omega)) rfl T.mZB T.fZB.kp T.bZB .nil Zu (XY (pv 4) (XY (pv 5) (XY (pv 2) (XY (Zg (Qk rfl) (by rfl) T.n_min Boot.«min» (XY (pv 3) (XY (pv 5) XX))) XX))))))
   (XO (WD (Zf UC (pv 3) (pv 5) (Zt _))
   (XO (Zi (i:=7) OY.nd rfl (Or.inl rfl) (Xy ih (hr.mono (by omega)) rfl T.mZB T.fZB.kp T.bZB .nil Zu (XY (Xy (lF T hB) (hr.mono (by omega)) rfl T.mZx T.fZx.kp T.bZx .nil Zu (XY (pv 0) XX)) (XY (Zr VS (pv 1) (pv 5)) (XY (Zr VS (pv 1) (pv 3)) (XY (Zr VS (pv 1) (Zg (zV rfl) (by rfl) T.n_max Boot.«max» (XY (pv 2) (XY (pv 5) XX)))) XX))))))
   (XI (ZN (Ui K YW jf jg g7 (pv 6) (XY (gG K rfl rfl T.n_list rfl T.n_reversed (XY (pv 7) XX)) XX)))))
   Zn)
   (XI (Zj (pv 6))))))))),?_⟩
   obtain⟨dx,w0,a,b,l,i,hx,hW,hA,Rn,hl,hi⟩:=id Lg;refine⟨_,rfl,_,rfl,_,_,rfl,rfl,_,rfl,?_⟩;refine Xc (λPr=>?_) (λXe=>?_)
   .refine⟨Yk _,λr hr=>?_⟩;have s1:=XZ (o:=.lst []) hr
    refine q r [] _ (SameX.same s1) (hT.same s1) hr XS ?_;rw[show(stop - start).toNat=0 by lia,xk];exact⟨rfl,λi l e=>by simp at e⟩
   show(_:Prop);refine So ?_;obtain⟨a0,rfl⟩:=i7 Hw;obtain⟨b0,rfl⟩:=i7 (show 0<=stop by lia);have VJ:a0<=b0:=by lia
   have lb:b0<=R.length:=by rw[hsz]at JW;exact Int.ofNat_le.mp JW
   have e0:((b0:Int) - (a0:Int)).toNat=b0 - a0:=Int.toNat_sub _ _;rw[YH,e0]at q;subst hsz;refine⟨_,rfl,x,_,dx,_,Xa fu,rfl,hx,T.cl_Part,T.n_Part_further,rfl,rfl,_,rfl,?_⟩;cases hR with
   | und SE Vh hiz =>
    obtain⟨rfl,rfl,rfl⟩:=QQ.uniq SE;refine Wf ?_;refine⟨_,rfl,x,n,ps,I,O,F,inc,ld,none,rfl,Lg,hG,QQ.tr.1,Vh,hiz,λr xs H1 s1 Vf VH hX=>?_⟩;have Lq:=hX.1
    refine⟨_,rfl,_,rfl,_,rfl,_,rfl,r,xs,rfl,SqL.of VH,λq1 bJ=>?_⟩;rw[BA xs (by rwa[Lq])];have s2:=XZ (o:=.lst ((xs.drop a0).take (b0 - a0))) bJ
    have WR:=s1.trans s2;refine q q1 _ _ (SameX.same WR) (hT.same WR) (s1.free bJ) XS ?_;exact(ZL8 hX _ _).imp λ_ _ h=>by obtain⟨c,e,hc⟩:=h;exact⟨c,e,s2 _ _ hc⟩
   | div SE hIn Xn UN Of k9 k7 y0 y1 hpc hRA hRB =>
    rename_i e F' Wd z y A' B;obtain⟨rfl,rfl,rfl⟩:=QQ.uniq SE;have esp:=Ul e rfl
    subst esp;refine Uz ?_;show(_:Prop)
    refine So ?_;have Ti:=Wr.mp hIn
    have Bz:I.Nodup:=Ti.1;have By:∀ v∈I,0<=v/\v<(ps.length:Int):=λv hv=>Xn v (Ye _ hv)
    have Bx:∀ v∈I,v∉O++[z]:=λv hv h=>(Xr.mp h).elim (UN v (Ye _ hv)) λh=>Ti.2.2 v hv z (by simp) (XC.mp h);have Pk:O.length<=30:=by rw[Xv,Yp]at Of;lia
    rw[Xv,YR]at lb;have Pj:(((A'++B.reverse).length:Nat):Int)=(A'.length:Int)+B.length:=by rw[Xv,YR,Int.natCast_add]
    obtain⟨m,em,m1,m2,m3,m4⟩:=lh (x:=(A'.length:Int)) (y:=(b0:Int));refine⟨_,rfl,x,n,ps,I,O,F,inc,z,y,rfl,Lg,hG,hT,Bz,By,Bx,Of,k7,y0,y1,λx1 F1 MS yC H1 Jw Ou k0 Rk=>?_⟩;refine nm ?_;dsimp only [List.set];refine⟨_,rfl,x1,n,ps,I,O++[z],F1,MS,some y,yC,rfl,Ou,hG,Bz,By,Of,Bx,λc H2 hc s2=>?_⟩;have ec:=hc.uniq hpc
    subst ec;refine nm ?_;dsimp only [List.set];have Bw:SameX Pt H H2:=k0.trans (SameX.same s2)
    have Wc:=Rk.same s2;refine⟨_,rfl,_,rfl,_,rfl,_,rfl,_,rfl,_,_,rfl,?_⟩;refine⟨x1,n,ps,I,O++[z],F1,MS,some y,yC,A',_,_,_,rfl,Ou.samex Rk (SameX.same s2),Jw,hG,Wc,hRA,rfl,Hw,(by rwa[em]),(by rw[em];exact HV (Int.sub_le_sub_right m2 _) NI),λr xs H3 kZ Rj Vf Sf hX=>?_⟩;refine nm ?_;dsimp only [List.set];have IC:=Bw.trans kZ
    have kY:H r=none:=bK Wc Bw Vf;rw[YH,em]at hX;refine⟨_,rfl,_,rfl,_,_,rfl,rfl,_,rfl,?_⟩;refine Xc (λhgt=>?_) (λhle=>?_);rotate_left
    .show(_:Prop);refine So ?_;refine⟨_,rfl,?_⟩;have kX:¬ (A'.length:Int)<(b0:Int):=hle
     rw[m4 kX,e0]at hX;rw[lq A' B.reverse (by lia)]at q;exact q r xs H3 IC Rj kY Sf hX
    have Bv:(A'.length:Int)<(b0:Int):=hgt;rw[m3 Bv,Int.toNat_sub,YO (by rw[Wx];exact XJ _)]at hX;clear m1 m2 m3 m4 em m;refine⟨_,rfl,x,n,ps,I,O,F,inc,z,y,rfl,Lg.samex hT IC,hG,Rj,hIn,Xn,UN,Pk,k9,y0,y1,λx2 F2 Jg oQ H4 Ru Tj Lk IB=>?_⟩;refine⟨_,rfl,_,rfl,_,_,rfl,rfl,_,rfl,_,rfl,_,_,rfl,rfl,_,rfl,_,rfl,_,rfl,_,_,rfl,_,_,rfl,rfl,?_⟩;obtain⟨c0,ec,QM,lj⟩:∃ c0:Nat,(if (A'.length:Int) > (a0:Int) then (A'.length:Int) else (a0:Int))=(c0:Int)/\((a0<=A'.length/\c0=A'.length)\/(A'.length<=a0/\c0=a0))/\c0<=b0:=by
     by_cases c:(A'.length:Int) > (a0:Int)
     .exact⟨A'.length,if_pos c,.inl ⟨NX (Int.ofNat_lt.mp c),rfl⟩,NX (Int.ofNat_lt.mp Bv)⟩
     .exact⟨a0,if_neg c,.inr ⟨Int.ofNat_le.mp (HR.mp c),rfl⟩,VJ⟩
    rw[lp A' B QM lj lb]at q;have hAc:A'.length<=c0:=by rcases QM with h | h <;> lia
    have hac:a0<=c0:=by rcases QM with h | h <;> lia
    clear QM;refine⟨x2,n,ps,I++[z],O,F2,Jg,some y,oQ,B,_,_,_,rfl,Tj,Ru,hG,IB,hRB,(by rw[Pj];lia),(by rw[Pj];lia),(by rw[ec,Pj];lia),(by rw[ec,Pj];lia),λr2 ys H5 BO kW kT hr5 hY=>?_⟩;refine nm ?_;dsimp only [List.set];have Lp:=Lk _ _ (Rj.ne Sf (by simp)) Sf
    have Bu:=BO _ _ (IB.ne Lp (by simp)) Lp;have kR:=(IC.trans Lk).trans BO
    have e2:((A'.length:Int)+B.length - (b0:Int)).toNat=A'.length+B.length - b0:=by grind
    have e3:((A'.length:Int)+B.length - (c0:Int) - ((A'.length:Int)+B.length - (b0:Int))).toNat=b0 - c0:=by grind
    rw[ec,Pj,e2,e3]at hY;have Lq:xs.length<=100000:=by rw[hX.1,Wx];lia
    have MQ:ys.length<=100000:=by rw[hY.1,Yj];lia
    refine⟨_,rfl,.inl ⟨rfl,_,SqL.of Bu⟩,_,rfl,r2,ys,rfl,SqL.of hr5,λdA hd=>?_⟩;have s6:=XZ (o:=.lst ys.reverse) hd
    have GZ:=s6 _ _ Bu;have z1:1000000<=sizeLine:=by decide
    refine⟨r,dA,xs,ys.reverse,rfl,rfl,GZ,XS,(by rw[YR];lia),?_⟩;refine⟨_,rfl,?_⟩;refine q r (xs++ys.reverse) _ (λb o hb e=>?_) ((kW.same s6).put GZ) kY XS ?_
    .rw[Za (Zb e kY)];exact s6 _ _ (kR _ _ hb e)
    .have f1:Bears (VA (upd H5 dA (.lst ys.reverse))) xs (A'.drop a0):=hX.imp λ_ _ h=>by
      obtain⟨c,e,hc⟩:=h;have x6:=Lk _ _ (Rj.ne hc (by simp)) hc
      exact⟨c,e,s6 _ _ (BO _ _ (IB.ne x6 (by simp)) x6)⟩
     have f2:Bears (VA (upd H5 dA (.lst ys.reverse))) ys.reverse ((B.drop (A'.length+B.length - b0)).take (b0 - c0)).reverse:=bM (hY.imp λ_ _ h=>by obtain⟨c,e,hc⟩:=h;exact⟨c,e,s6 _ _ hc⟩)
     exact(bN f1 f2).imp λ_ _ h=>by obtain⟨c,e,hc⟩:=h;exact⟨c,e,by rwa[Za (VG hc GZ (by simp))]⟩
 induction d with
 | zero=>exact key 0 0 _ oO (by lia) λe h=>(by cases h)
 | succ d ih=>exact key (d+1) (11+d) _ ih (by lia) λe h=>(by cases h;rfl)
def kQ:Sp:=λvs H Q _=>∃ z:Int,vs=[.int z]/\-(10 ^ 70)<z/\z<10 ^ 70/\(0<=z->Q .non H)/\(z<0->False)
theorem kP:FnScope ["number"] ["number"] (XD sZC):=⟨rfl,rfl,rfl,by decide +kernel,rfl,by decide +kernel,by decide +kernel⟩
theorem kO (T:Txt K mg t):FnOk P w K mg base Xg 1 t.aZC t.dZC ["number"] kQ:=by
 refine T.fZC.ok kP (λvs H Q E h=>?_) (λXw A outer s H vs Q E hr h=>?_)
 .obtain⟨z,rfl,_⟩:=h;rfl
 .obtain⟨z,rfl,z0,z1,q,qe⟩:=h;refine⟨_,(XI (WD (Zf SW (pv 0) XN (Zt _))
   (XI ZV)
   Zn)),?_⟩
  refine⟨_,rfl,_,_,rfl,rfl,_,rfl,?_⟩;refine Xc (λh=>?_) (λh=>?_)
  .exact qe h
  .exact q (by lia)
def kN(K:Ad)(CP C Pt:Addr):Sp:=λvs H Q _=>∃(w:Addr) (n:Int) (ps:Aa) (num most:Int) (R:Ab),vs=[.ref w,.int num,.int most]/\WebAt C H w n ps/\Zz n ps/\WN H Pt/\0<=num/\num<10 ^ 70/\0<=most/\most<=100000/\((∃ U,Ze n ps U)->RowW n ps R)/\((∀ U,¬ Ze n ps U)->R=[]) /\
 ∀(r:Addr) (xs:List V) (H':Hp),SameX Pt H H'->WN H' Pt->H r=none->H' r=some (.lst xs)->Bears (VA H') xs ((R.drop num.toNat).take most.toNat)->Q (.ref r) H'
theorem Bt:FnScope ["web","number","most","size"] ["web","number","most"] (XD sZD):=⟨rfl,rfl,rfl,by decide +kernel,rfl,by decide +kernel,by decide +kernel⟩
theorem kM {Pt:Addr} (T:Txt K mg t) (hB:Lw K mg base t.dZu Pt):FnOk P w K mg base Xg 44 t.aZD t.dZD ["web","number","most"] (kN K t.A_Part t.A_Web Pt):=by
 refine T.fZD.ok Bt (λvs H Q E h=>?_) (λXw A outer s H vs Q E hr h=>?_)
 .obtain⟨w,n,ps,num,most,R,rfl,_⟩:=h;rfl
 .obtain⟨w,n,ps,num,most,R,rfl,hW,hG,hT,n0,n1,m0,m1,bI,bH,q⟩:=h;refine⟨_,(XO (ZN (Xy (kO T) (hr.mono (by decide)) rfl T.mZC T.fZC.kp T.bZC .nil Zu (XY (pv 1) XX)))
   (XO (Zi (i:=3) Bt.nd rfl (Or.inl rfl) (Xy (IV T) (hr.mono (by decide)) rfl T.mZj T.fZj.kp T.bZj .nil Zu (XY (pv 0) XX)))
   (XO (WD (Zf FP (pv 1) (pv 3) (Zt _))
   (XI (Zj (UA XX)))
   Zn)
   (XI (Zj (Xy (lg T hB 31) (hr.mono (by decide)) rfl T.mZB T.fZB.kp T.bZB .nil Zu (XY (Xy (lN T hB) (hr.mono (by decide)) rfl T.mZv T.fZv.kp T.bZv .nil Zu (XY (pv 0) XX)) (XY (pv 3) (XY (pv 1) (XY (Zg (Qk rfl) (by rfl) T.n_min Boot.«min» (XY (Zr Uo (pv 1) (pv 2)) (XY (pv 3) XX))) XX)))))))))),?_⟩
  have big:(0:Int)<10 ^ 70:=by decide
  refine⟨_,rfl,num,rfl,by lia,n1,λ_=>?_,λh=>absurd h (by lia)⟩;refine⟨_,rfl,w,n,ps,rfl,hW,hG,λc H1 hc s1=>?_⟩;refine nm ?_;dsimp only [List.set];have Pj:R.length=c:=by
   by_cases hex:∃ U,Ze n ps U
   .obtain⟨_,_,_,_,_,_,_,_,h⟩:=bI hex;exact h.uniq hc
   .have To:∀ U,¬ Ze n ps U:=λU hU=>hex ⟨U,hU⟩;rw[bH To,(dN hc).mpr To];rfl
  refine⟨_,rfl,_,rfl,_,_,rfl,rfl,_,rfl,?_⟩;refine Xc (λPr=>?_) (λXe=>?_)
  .refine⟨Yk _,λr hr=>?_⟩;have s2:=XZ (o:=.lst []) hr
   have WR:=s1.trans s2;refine q r [] _ (SameX.same WR) (hT.same WR) (s1.free hr) XS ?_;rw[Ii (by lia),xf];exact⟨rfl,λi l e=>by simp at e⟩
  show(_:Prop);refine So ?_;obtain⟨U0,GV⟩:∃ U,Ze n ps U:=Yx λno=>by
   have:=(dN hc).mpr λU hU=>no ⟨U,hU⟩
   lia
  obtain⟨ld,F,inc,fu,QQ,hn,hs,Hc,_⟩:=bI ⟨U0,GV⟩;have Rk:=hT.same s1
  refine⟨_,rfl,w,n,ps,rfl,hW.same s1,hG,Rk,⟨U0,GV⟩,λx F' Wd He Hg H2 SE Qt LX Lg Bw Wc=>?_⟩;have eF:F'=F:=SM (QQ.least F' SE.tr) (SE.least F QQ.tr)
  subst eF;have el:=oy Qt LX hn hs
  subst el;refine⟨_,rfl,_,rfl,_,rfl,_,rfl,_,_,rfl,rfl,_,rfl,_,_,rfl,?_⟩;refine⟨x,n,ps,[],[],F',Wd,He,Hg,R,_,_,_,rfl,Lg,SE,hG,Wc,Hc,by lia,n0,(by split <;> lia),(by split <;> lia),λr xs H3 kZ Rj Vf Sf hX=>?_⟩
  have e1:((R.drop num.toNat).take ((if (c:Int)<num+most then (c:Int) else num+most) - num).toNat)=(R.drop num.toNat).take most.toNat:=by rw[List.take_eq_take_iff,Wx];split <;> grind
  rw[e1]at hX;exact q r xs H3 ((SameX.same s1).trans (Bw.trans kZ)) Rj (bK Wc ((SameX.same s1).trans Bw) Vf) Sf hX
def kJ(K:Ad)(CP C Pt:Addr):Sp:=λvs H Q _=>∃(w:Addr) (n:Int) (ps:Aa) (num:Int) (R:Ab),vs=[.ref w,.int num]/\WebAt C H w n ps/\Zz n ps/\WN H Pt/\0<=num/\num<R.length/\RowW n ps R /\
 ∀(r:Addr) (T:Ac) (H':Hp),R[num.toNat]?=some T->SameX Pt H H'->WN H' Pt->H' r=some (.tup (IL T))->Q (.ref r) H'
theorem kI{R:Ab}{j:Nat}{T:Ac}(h:R[j]?=some T):(R.drop j).take 1=[T]:=by have hj:=(Xm.mp h);rw[List.drop_eq_getElem_cons hj.1,hj.2];rfl
theorem Bs:FnScope ["web","number","trees"] ["web","number"] (XD sZE):=⟨rfl,rfl,rfl,by decide +kernel,rfl,by decide +kernel,by decide +kernel⟩
theorem kH {Pt:Addr} (T:Txt K mg t) (hB:Lw K mg base t.dZu Pt):FnOk P w K mg base Xg 45 t.aZE t.dZE ["web","number"] (kJ K t.A_Part t.A_Web Pt):=by
 refine T.fZE.ok Bs (λvs H Q E h=>?_) (λXw A outer s H vs Q E hr h=>?_)
 .obtain⟨w,n,ps,num,R,rfl,_⟩:=h;rfl
 .obtain⟨w,n,ps,num,R,rfl,hW,hG,hT,n0,n1,hR,q⟩:=h;refine⟨_,(XO (Zi (i:=2) Bs.nd rfl (Or.inl rfl) (Xy (kM T hB) (hr.mono (by decide)) rfl T.mZD T.fZD.kp T.bZD .nil Zu (XY (pv 0) (XY (pv 1) (XY XN XX)))))
   (XO (WD (Zf VD (Zg (Zl K) (by rfl) T.n_len Boot.«len» (XY (pv 2) XX)) XN (Zt _))
   (XI ZV)
   Zn)
   (XI (Zj (ZF (Zd K) (pv 2) XN (λ_ _=>rfl)))))),?_⟩
  obtain⟨ld,F,inc,fu,QQ,_,_,_,xZ⟩:=id hR;have c20:=eS hG xZ
  obtain⟨U,hU⟩:∃ U,R[num.toNat]?=some U:=⟨_,Xu (by lia)⟩;refine⟨_,rfl,_,rfl,w,n,ps,num,1,R,rfl,hW,hG,hT,n0,by lia,by decide,by decide,λ_=>hR,λno=>absurd QQ.tr.1 (no F),λr xs H1 k0 Rk Vf VH hX=>?_⟩;refine nm ?_;dsimp only [List.set];rw[show(1:Int).toNat=1 from rfl,kI hU]at hX;obtain⟨v,hv,c,rfl,hc⟩:=hX.2 0 U rfl;have hl:xs.length=1:=hX.1
  refine⟨_,rfl,r,xs,rfl,.inl (SqL.of VH),rfl,_,rfl,?_⟩;rw[ZD];refine Xc (λh0=>by lia) (λ_=>?_);show(_:Prop)
  refine So ?_;exact⟨_,rfl,r,xs,0,.ref c,rfl,rfl,SqL.of VH,ZB (n:=0) rfl hv,q c U H1 hU k0 Rk hc⟩
def kG(K:Ad)(C:Addr):Sp:=λvs H Q _=>∃(w a b:Addr) (n:Int) (ps:Aa) (kd ke:Bool) (T W:Ac),vs=[.ref w,.ref a,.ref b]/\WebAt C H w n ps/\Zz n ps/\SqK kd K H a (IL T)/\SqK ke K H b (IL W) /\
 (Ze n ps T->Ze n ps W->∀ H':Hp,Same H H'->Q (.int ((T.filter λy=>decide (y∉W)).length:Int)) H')/\(¬ (Ze n ps T/\Ze n ps W)->∀ H':Hp,Same H H'->False)
theorem kF:FnScope ["web","one","other"] ["web","one","other"] (XD sZF):=⟨rfl,rfl,rfl,by decide +kernel,rfl,by decide +kernel,by decide +kernel⟩
theorem Br (T:Txt K mg t):FnOk P w K mg base Xg 8 t.aZF t.dZF ["web","one","other"] (kG K t.A_Web):=by
 refine T.fZF.ok kF (λvs H Q E h=>?_) (λXw A outer s H vs Q E hr h=>?_)
 .obtain⟨w,a,b,n,ps,kd,ke,T,W,rfl,_⟩:=h;rfl
 .obtain⟨w,a,b,n,ps,kd,ke,T',W,rfl,hW,hG,hA,hB,q,qe⟩:=h;refine⟨_,(XO (ZN (Xy (Us T) (hr.mono (by decide)) rfl T.mZm T.fZm.kp T.bZm .nil Zu (XY (pv 0) (XY (pv 1) XX))))
   (XO (ZN (Xy (Us T) (hr.mono (by decide)) rfl T.mZm T.fZm.kp T.bZm .nil Zu (XY (pv 0) (XY (pv 2) XX))))
   (XI (Zj (Zg (Zl K) (by rfl) T.n_len Boot.«len» (XY (Vt rfl (sc0:=XD sZF) (N0:=["web","one","other"]) (N':=["tie","other"]) (o:=1) (fr:=[2]) ⟨rfl,by decide +kernel,by decide +kernel,by decide +kernel,rfl,by decide +kernel⟩ (PX K (pv 1)) (Zp (by decide)) (λ_ _ _ _=>(Zc (i:=0) (show List.Nodup (["tie","other"]:List Str) by decide +kernel) rfl (Or.inl rfl))) (λ_ _ _ _=>(Wl (Zf (ZC K) (pv 0) (pv 1) rfl))) (λ_ _ _ _=>(pv 0))) XX)))))),?_⟩
  refine⟨_,rfl,_,rfl,w,a,n,ps,kd,T',rfl,hW,hG,hA,λhT H1 s1=>?_,λh=>qe λhh=>h hh.1⟩;refine⟨_,rfl,_,rfl,w,b,n,ps,ke,W,rfl,hW.same s1,hG,hB.same s1,λhO H2 s2=>?_,λh H2 s2=>qe (λhh=>h hh.2) H2 (s1.trans s2)⟩;have VN:=s1.trans s2
  have tl:T'.length<=20:=by have:=hT.2.1;have:=hG.2.1;lia
  refine⟨_,rfl,a,rfl,ET (k:=kd) (K:=K) (xs:=IL T') (λj zs H8=>H8=H2/\j<=T'.length/\zs=IL ((T'.take j).filter λy=>decide (y∉W))) ⟨rfl,Yk _,rfl⟩ (Zh (by rw[XB];lia))
    (λj zs H8 hj ⟨e,SK,ey⟩=>⟨e ▸ hA.same VN,by rw[ey,XB];exact Yv (YF ..) (by rw[Yj];lia)⟩) ?_ ?_⟩
  .rintro j x zs H8 hj ⟨rfl,Ow,rfl⟩ S Xq;obtain⟨y,rfl,hy⟩:=ZW hj;have WT:j<T'.length:=(Xm.mp hy).1
   refine nm ?_;refine⟨_,rfl,_,rfl,b,_,rfl,(hB.same VN).or,rfl,Zq _,_,rfl,?_⟩;rw[Zy];refine WX (λhe=>?_) (λhe=>?_)
   .refine Xq _ _ ⟨rfl,WT,?_⟩;rw[Zw hy,if_neg (by simpa using he),YE]
   .refine⟨_,rfl,Xq _ _ ⟨rfl,WT,?_⟩⟩;rw[Zw hy,if_pos (Yr he),ZK]
  rintro zs H8 ⟨rfl,_,rfl⟩ fA mG;rw[XB,YA];refine⟨fA,_,rfl,.inl (SqL.of XS),?_⟩;rw[XB];exact q hT hO _ (VN.trans (XZ mG))
def kE(K:Ad)(C:Addr):Sp:=λvs H Q _=>∃(w a b:Addr) (n:Int) (ps:Aa) (kd ke:Bool) (T W:Ac),vs=[.ref w,.ref a,.ref b]/\WebAt C H w n ps/\Zz n ps/\SqK kd K H a (IL T)/\SqK ke K H b (IL W)/\Ze n ps T/\Ze n ps W /\
 ∀(ws:Aa) (U:Ac) (r:Addr) (xs:List V) (H':Hp),WP n ps W T W ws U->Same H H'->H r=none->H' r=some (.lst xs)->PairsV H' xs ws->Q (.ref r) H'
theorem Ri:FnScope ["web","one","other","walk","tree","into","out"] ["web","one","other"] (XD sZG):=⟨rfl,rfl,rfl,by decide +kernel,rfl,by decide +kernel,by decide +kernel⟩
theorem kD (T:Txt K mg t):FnOk P w K mg base Xg 9 t.aZG t.dZG ["web","one","other"] (kE K t.A_Web):=by
 refine T.fZG.ok Ri (λvs H Q E h=>?_) (λXw A outer s H vs Q E hr h=>?_)
 .obtain⟨w,a,b,n,ps,kd,ke,T,W,rfl,_⟩:=h;rfl
 .obtain⟨w,a,b,n,ps,kd,ke,T',W,rfl,hW,hG,hA,hB,hT,hO,q⟩:=h;refine⟨_,(XO (ZN (Xy (Us T) (hr.mono (by decide)) rfl T.mZm T.fZm.kp T.bZm .nil Zu (XY (pv 0) (XY (pv 1) XX))))
   (XO (ZN (Xy (Us T) (hr.mono (by decide)) rfl T.mZm T.fZm.kp T.bZm .nil Zu (XY (pv 0) (XY (pv 2) XX))))
   (XO (Zi (i:=3) Ri.nd rfl (Or.inl rfl) (UA XX))
   (XO (Zi (i:=4) Ri.nd rfl (Or.inl rfl) (Zm (ZY5 K) (by rfl) T.n_tuple Boot.«tuple» (XY (pv 1) XX)))
   (XO (Vb YQ rfl (PX K (pv 2)) (Zc (i:=5) Ri.nd rfl (Or.inl rfl))
   (XI (WD (Zf (ZC K) (pv 5) (pv 4) rfl)
   (XO (Zi (i:=6) Ri.nd rfl (Or.inl rfl) (Zg (Er K rfl) (by rfl) T.n_min Boot.«min» (XY (Vt rfl (sc0:=XD sZG) (N0:=["web","one","other","walk","tree","into","out"]) (N':=["tie","other"]) (o:=1) (fr:=[2]) ⟨rfl,by decide +kernel,by decide +kernel,by decide +kernel,rfl,by decide +kernel⟩ (JQ K (Xy (IM T) (hr.mono (by decide)) rfl T.mZp T.fZp.kp T.bZp .nil Zu (XY (pv 0) (XY (pv 4) (XY (pv 5) XX))))) (Zp (by decide)) (λ_ _ _ _=>(Zc (i:=0) (show List.Nodup (["tie","other"]:List Str) by decide +kernel) rfl (Or.inl rfl))) (λ_ _ _ _=>(Wl (Zf (ZC K) (pv 0) (pv 1) rfl))) (λ_ _ _ _=>(pv 0))) XX)))
   (XO (ZN (Ui K YW Mw Mz LZ (pv 3) (XY (UB (XY (pv 6) (XY (pv 5) XX))) XX)))
   (XI (Zi (i:=4) Ri.nd rfl (Or.inl rfl) (Xy (BV T) (hr.mono (by decide)) rfl T.mZq T.fZq.kp T.bZq .nil Zu (XY (pv 0) (XY (pv 4) (XY (pv 6) (XY (pv 5) XX)))))))))
   Zn)))
   (XI (Zj (pv 3)))))))),?_⟩
  obtain⟨g1,g2,g3,g4⟩:=id hG;have two:2<=sizeLine:=by decide
  have wl13:W.length<=13:=by have:=hO.2.1;lia
  refine⟨_,rfl,_,rfl,w,a,n,ps,kd,T',rfl,hW,hG,hA,λ_ H1 s1=>?_,λh=>absurd hT h⟩;refine⟨_,rfl,_,rfl,w,b,n,ps,ke,W,rfl,hW.same s1,hG,hB.same s1,λ_ H2 s2=>?_,λh=>absurd hO h⟩;have VN:=s1.trans s2
  refine⟨Yk _,λwA bG=>?_⟩;have Bq:H wA=none:=VN.free bG
  have s3:=VN.trans (XZ (o:=.lst []) bG);refine⟨_,rfl,a,IL T',kd,rfl,hA.same s3,λtA H4 s4 Vr=>?_⟩;have IU:=s3.trans s4
  have hw4:=s4 _ _ (XS (H:=H2) (a:=wA) (o:=.lst []));refine⟨_,rfl,b,rfl,RN (k:=ke) (K:=K) (xs:=IL W) (λi σ H5=>∃(tA:Addr) (U:Ac) (ws:Aa) (xs:List V) (v5 v6:Option V),σ=[some (.ref w),some (.ref a),some (.ref b),some (.ref wA),some (.ref tA),v5,v6]/\Same H H5/\H5 wA=some (.lst xs)/\PairsV H5 xs ws/\ws.length<=i/\SqK true K H5 tA (IL U)/\WP n ps W T' (W.take i) ws U/\i<=W.length)
   ⟨tA,T',[],[],none,none,rfl,IU,hw4,PairsV.nil,XJ _,Vr,WP.nil,Yk _⟩ (λi σ H5 _ h=>by obtain⟨_,_,_,_,_,_,_,s5,_⟩:=h;exact hB.same s5) ?_ ?_⟩
  .rintro i x σ H5 hi ⟨tA,U,ws,xs,v5,v6,rfl,s5,xY,Bp,Kc,Vr,GU,Vh⟩;obtain⟨z,rfl,hz⟩:=ZW hi;have Xf:i<W.length:=(Xm.mp hz).1
   have Tg:=Xi hz;have kC:=hO.1.all z Tg
   have tk:W.take (i+1)=W.take i++[z]:=by rw[YL,hz];rfl
   obtain⟨hU,_,_,_⟩:=GU.facts hG hT (λy hy=>Ig hy) hO;have ul:U.length<=13:=by have:=hU.2.1;lia
   have bz:-(10 ^ 70)<z/\z<10 ^ 70:=⟨by omega,by lia⟩;refine⟨_,rfl,_,rfl,tA,_,rfl,.inr Vr,rfl,Zq _,_,rfl,?_⟩;rw[Zy];refine WX (λWC=>?_) (λWC=>?_)
   .exact⟨tA,U,ws,xs,_,_,rfl,s5,xY,Bp,by lia,Vr,by rw[tk];exact .skip GU WC,Xf⟩
   refine⟨_,rfl,_,rfl,_,rfl,w,tA,n,ps,true,U,z,rfl,hW.same s5,hG,Vr,bz.1,bz.2,λ_ _ _ _ ms Wh TQ rA H6 s6 kB SF=>?_,λ_ h=>(h.elim WC λh=>h kC).elim,λh=>absurd hU h⟩;have ml:ms.length<=14:=by
    have:=TU n ps U z U
    rw[Wh.length_eq,Xv,Yp];lia
   have s06:=s5.trans s6;refine⟨rA,rfl,⟨_,SqT.of SF⟩,JS (K:=K) (a:=rA) (xs:=IL ms) (λj ys H7=>H7=H6/\j<=ms.length/\ys=IL ((ms.take j).filter λy=>decide (y∉W))) ⟨rfl,Yk _,rfl⟩ (Zh (by rw[XB];lia))
    (λj ys H7 hj h=>by obtain⟨e,SK,ey⟩:=h;exact⟨e ▸ SqT.of SF,by rw[ey,XB];exact Yv (YF ..) (by rw[Yj];lia)⟩) ?_ ?_⟩
   .rintro j x ys H7 hj ⟨rfl,Ow,rfl⟩ S Xq;obtain⟨y,rfl,hy⟩:=ZW hj;have WT:j<ms.length:=(Xm.mp hy).1
    refine nm ?_;refine⟨_,rfl,_,rfl,b,_,rfl,(hB.same s06).or,rfl,Zq _,_,rfl,?_⟩;rw[Zy];refine WX (λhe=>?_) (λhe=>?_)
    .refine Xq _ _ ⟨rfl,WT,?_⟩;rw[Zw hy,if_neg (by simpa using he),YE]
    .refine⟨_,rfl,Xq _ _ ⟨rfl,WT,?_⟩⟩;rw[Zw hy,if_pos (Yr he),ZK]
   rintro ys H7 ⟨rfl,_,rfl⟩ p hp;rw[XB,YA];have s7:=XZ (o:=.lst (IL (ms.filter λy=>decide (y∉W)))) hp
   have SD:∀ y,y∈ms.filter (λy=>decide (y∉W))↔y∈UW n ps U z U/\y∉W:=λy=>by
    rw[Yd,YM,Wh.mem_iff,Xr,XC];constructor
    .rintro⟨h | h,h2⟩
     .exact⟨h,h2⟩
     .exact absurd (h ▸ Tg) h2
    .rintro⟨h,h2⟩;exact⟨.inl h,h2⟩
   obtain⟨o0,ho0,ky⟩:=Eo hG hU hO Tg WC;refine⟨p,_,rfl,SqL.of XS,Ij ((SD o0).mpr ⟨ho0,ky⟩),λo ho hmin=>?_⟩;obtain⟨kx,hoW⟩:=(SD o).mp ho;have ku:=(Xl.mp kx).1
   have hx:exg n ps U o z:=⟨ku,λe=>WC (e ▸ ku),(Xl.mp kx).2⟩;have ob:=hU.1.all o ku
   have bo:-(10 ^ 70)<o/\o<10 ^ 70:=⟨by lia,by lia⟩;have Tw:=s6.trans s7
   have bF:=Tw _ _ xY;refine⟨_,rfl,.inl ⟨rfl,_,SqL.of bF⟩,_,rfl,_,rfl,two,λtp Ck=>?_⟩;have s8:=XZ (o:=.tup [.int o,.int z]) Ck
   have ks:=s8 _ _ bF;refine⟨wA,xs,_,rfl,rfl,ks,Zh (by rw[Bp.1];lia),?_⟩;have bE:Same H (upd (upd (upd H7 p (.lst (IL (ms.filter λy=>decide (y∉W))))) tp (.tup [.int o,.int z])) wA (.lst (xs++[.ref tp]))):=ZA Bq ((s5.trans Tw).trans s8)
   have mB:=(((Bp.same Tw).same s8).snoc (p:=(o,z)) ⟨tp,rfl,XS⟩).mut (zs:=xs++[.ref tp]) ks;have hw9:(upd (upd (upd H7 p (.lst (IL (ms.filter λy=>decide (y∉W))))) tp (.tup [.int o,.int z])) wA (.lst (xs++[.ref tp]))) wA=some (.lst (xs++[.ref tp])):=XS
   have kq:SqK true K (upd (upd (upd H7 p (.lst (IL (ms.filter λy=>decide (y∉W))))) tp (.tup [.int o,.int z])) wA (.lst (xs++[.ref tp]))) tA (IL U):=((Vr.same Tw).same s8).mutL ks;generalize upd (upd (upd H7 p (.lst (IL (ms.filter λy=>decide (y∉W))))) tp (.tup [.int o,.int z])) wA (.lst (xs++[.ref tp]))=H9 at *;refine⟨_,rfl,_,rfl,_,rfl,_,rfl,w,tA,n,ps,true,U,o,z,rfl,hW.same bE,hG,kq,bo.1,bo.2,bz.1,bz.2,λ_ _ ko km kl r2 QH Ud kT Vy=>?_,λ_ h=>absurd hx h,λh=>absurd hU h⟩;refine⟨r2,ko,ws++[(o,z)],xs++[.ref tp],_,_,rfl,bE.trans Ud,Ud _ _ hw9,mB.same Ud,by rw[Xv];exact xw Kc,SqT.of Vy,?_,Xf⟩;rw[tk];exact .step GU WC kx hoW (λy hy Ej=>hmin y ((SD y).mpr ⟨hy,Ej⟩)) km kl
  rintro σ H5 ⟨tA,U,ws,xs,v5,v6,rfl,s5,xY,Bp,_,_,GU,_⟩;rw[XB,YA]at GU;exact⟨_,rfl,q ws U wA xs H5 GU s5 Bq xY Bp⟩
def kj(K:Ad)(C:Addr):Sp:=λvs H Q _=>∃(w a b:Addr) (n:Int) (ps:Aa) (ke:Bool) (T:Ac) (xs:List V) (ws:Aa),vs=[.ref w,.ref a,.ref b]/\WebAt C H w n ps/\Zz n ps/\(H a=some (.tup (IL T))\/SqL K H a (IL T))/\SqK ke K H b xs/\PairsV H xs ws/\(∀ p∈ws,-(10 ^ 70)<p.1/\p.1<10 ^ 70/\-(10 ^ 70)<p.2/\p.2<10 ^ 70) /\
 (Ze n ps T->∀ U,Wk n ps T ws U->∀(r:Addr) (H':Hp),Same H H'->H' r=some (.tup (IL U))->Q (.ref r) H')/\(Ze n ps T->gj n ps T ws->∀ H':Hp,Same H H'->False)/\(¬ Ze n ps T->∀ H':Hp,Same H H'->False)
theorem MF:FnScope ["web","tree","walk","pair"] ["web","tree","walk"] (XD sZH):=⟨rfl,rfl,rfl,by decide +kernel,rfl,by decide +kernel,by decide +kernel⟩
theorem ki (T:Txt K mg t):FnOk P w K mg base Xg 9 t.aZH t.dZH ["web","tree","walk"] (kj K t.A_Web):=by
 refine T.fZH.ok MF (λvs H Q E h=>?_) (λXw A outer s H vs Q E hr h=>?_)
 .obtain⟨w,a,b,n,ps,ke,T,xs,ws,rfl,_⟩:=h;rfl
 .obtain⟨w,a,b,n,ps,ke,T',xs,ws,rfl,hW,hG,hA,hB,hP,hbd,q,q1,q2⟩:=h;refine⟨_,(XO (ZN (Xy (Us T) (hr.mono (by decide)) rfl T.mZm T.fZm.kp T.bZm .nil Zu (XY (pv 0) (XY (pv 1) XX))))
   (XO (Zi (i:=1) MF.nd rfl (Or.inl rfl) (Zm (ZZ5 K) (by rfl) T.n_tuple Boot.«tuple» (XY (pv 1) XX)))
   (XO (Vb YQ rfl (PX K (pv 2)) (Zc (i:=3) MF.nd rfl (Or.inl rfl))
   (XI (Zi (i:=1) MF.nd rfl (Or.inl rfl) (Xy (BV T) (hr.mono (by decide)) rfl T.mZq T.fZq.kp T.bZq .nil Zu (XY (pv 0) (XY (pv 1) (XY (ZF (ZJ K) (pv 3) XN (λ_ _=>rfl)) (XY (ZF (ZJ K) (pv 3) XN (λ_ _=>rfl)) XX))))))))
   (XI (Zj (pv 1)))))),?_⟩
  have kh:∃ kd,SqK kd K H a (IL T'):=hA.elim (λh=>⟨true,SqT.of h⟩) λh=>⟨false,h⟩;obtain⟨kd,kh⟩:=kh;have QT:=hP.1
  refine⟨_,rfl,_,rfl,w,a,n,ps,kd,T',rfl,hW,hG,kh,λhT H1 s1=>?_,q2⟩;have Ou:H1 a=some (.tup (IL T'))\/SqL K H1 a (IL T'):=hA.elim (λh=>.inl (s1 _ _ h)) λh=>.inr (s1.seq h)
  refine⟨_,rfl,a,_,rfl,Ou,λtA H2 s2 Vr=>?_⟩;have VN:=s1.trans s2
  refine⟨_,rfl,b,rfl,RN (k:=ke) (K:=K) (xs:=xs) (λi σ H5=>∃(tA:Addr) (U:Ac) (v3:Option V),σ=[some (.ref w),some (.ref tA),some (.ref b),v3]/\Same H H5/\H5 tA=some (.tup (IL U))/\Wk n ps T' (ws.take i) U)
   ⟨tA,T',none,rfl,VN,Vr,Wk.nil⟩ (λi σ H5 _ h=>by obtain⟨_,_,_,_,s5,_⟩:=h;exact hB.same s5) ?_ ?_⟩
  .rintro i x σ H5 hi ⟨tA,U,v3,rfl,s5,Vr,GS⟩;obtain⟨p,hp,tt,rfl,UR⟩:=hP.at hi;have Bo:=s5 _ _ UR
   obtain⟨b1,b2,b3,b4⟩:=hbd p (Xi hp);have hU:=GS.tree hG hT
   refine nm ?_;refine⟨_,rfl,_,rfl,_,rfl,tt,_,0,.int p.1,rfl,rfl,SqT.of Bo,rfl,_,rfl,tt,_,1,.int p.2,rfl,rfl,SqT.of Bo,rfl,w,tA,n,ps,true,U,p.1,p.2,rfl,hW.same s5,hG,SqT.of Vr,b1,b2,b3,b4,λ_ hx ms Wh TQ r H6 s6 Vf hr=>?_,λ_ hx H6 s6=>?_,λh=>absurd hU h⟩
   .refine⟨r,ms,_,rfl,s5.trans s6,hr,?_⟩;rw[YL,hp];exact .step GS hx Wh TQ
   .exact q1 hT ⟨i,p.1,p.2,U,hp,GS,hx⟩ H6 (s5.trans s6)
  rintro σ H5 ⟨tA,U,v3,rfl,s5,Vr,GS⟩;rw[QT,YA]at GS;exact⟨_,rfl,q hT U GS tA H5 s5 Vr⟩
def kg(K:Ad)(C:Addr):Sp:=λvs H Q _=>∃(w a b:Addr) (n:Int) (ps:Aa) (kd ke:Bool) (T W:Ac) (z:Int),vs=[.ref w,.ref a,.ref b,.int z]/\WebAt C H w n ps/\Zz n ps/\SqK kd K H a (IL T)/\SqK ke K H b (IL W)/\-(10 ^ 70)<z/\z<10 ^ 70 /\
 (Ze n ps T->Ze n ps W->z∈T->z∉W->∀ y:Int,exg n ps T z y->exg n ps W y z->(∀ v,exg n ps T z v->exg n ps W v z->y<=v)->∀ H':Hp,Same H H'->Q (.int y) H') /\
 (Ze n ps T->Ze n ps W->¬ (z∈T/\z∉W)->∀ H':Hp,Same H H'->False)/\(¬ (Ze n ps T/\Ze n ps W)->∀ H':Hp,Same H H'->False)
theorem Bn:FnScope ["web","one","other","tie","cut"] ["web","one","other","tie"] (XD sZI):=⟨rfl,rfl,rfl,by decide +kernel,rfl,by decide +kernel,by decide +kernel⟩
theorem kf (T:Txt K mg t):FnOk P w K mg base Xg 9 t.aZI t.dZI ["web","one","other","tie"] (kg K t.A_Web):=by
 refine T.fZI.ok Bn (λvs H Q E h=>?_) (λXw A outer s H vs Q E hr h=>?_)
 .obtain⟨w,a,b,n,ps,kd,ke,T,W,z,rfl,_⟩:=h;rfl
 .obtain⟨w,a,b,n,ps,kd,ke,T',W,z,rfl,hW,hG,hA,hB,z0,z1,q,q1,q2⟩:=h;refine⟨_,(XO (ZN (Xy (Us T) (hr.mono (by decide)) rfl T.mZm T.fZm.kp T.bZm .nil Zu (XY (pv 0) (XY (pv 1) XX))))
   (XO (ZN (Xy (Us T) (hr.mono (by decide)) rfl T.mZm T.fZm.kp T.bZm .nil Zu (XY (pv 0) (XY (pv 2) XX))))
   (XO (WD (PW.pt (Sv (Zf (ZC K) (pv 3) (pv 1) rfl) (Qq (Zf (JR K) (pv 3) (pv 2) rfl))))
   (XI ZV)
   Zn)
   (XO (Zi (i:=4) Bn.nd rfl (Or.inr rfl) (Xy (IP T) (hr.mono (by decide)) rfl T.mZo T.fZo.kp T.bZo .nil Zu (XY (pv 0) (XY (pv 1) (XY (pv 3) XX)))))
   (XI (Zj (Zg (Er K rfl) (by rfl) T.n_min Boot.«min» (XY (Vt rfl (sc0:=XD sZI) (N0:=["web","one","other","tie","cut"]) (N':=["into","cut","tie"]) (o:=1) (fr:=[4,3]) ⟨rfl,by decide +kernel,by decide +kernel,by decide +kernel,rfl,by decide +kernel⟩ (JQ K (Xy (IM T) (hr.mono (by decide)) rfl T.mZp T.fZp.kp T.bZp .nil Zu (XY (pv 0) (XY (pv 2) (XY (pv 3) XX))))) (Zp (by decide)) (λ_ _ _ _=>(Zc (i:=0) (show List.Nodup (["into","cut","tie"]:List Str) by decide +kernel) rfl (Or.inl rfl))) (λ_ _ _ _=>(Wl (PW.pt (HK (Zf (JR K) (pv 0) (pv 1) rfl) (RT (Zf Wo (pv 0) (pv 2) (Zt _))))))) (λ_ _ _ _=>(pv 0))) XX)))))))),?_⟩
  have one:1<=sizeLine:=by decide
  refine⟨_,rfl,_,rfl,w,a,n,ps,kd,T',rfl,hW,hG,hA,λhT H1 s1=>?_,λh=>q2 λhh=>h hh.1⟩;refine⟨_,rfl,_,rfl,w,b,n,ps,ke,W,rfl,hW.same s1,hG,hB.same s1,λhO H2 s2=>?_,λh H2 s2=>q2 (λhh=>h hh.2) H2 (s1.trans s2)⟩;have VN:=s1.trans s2
  refine⟨_,rfl,_,rfl,a,_,rfl,(hA.same VN).or,rfl,Zq _,_,rfl,?_⟩;rw[Zy];refine WX (λhz=>?_) (λhz=>?_);rotate_left
  .exact Wf (q1 hT hO (λh=>hz h.1) H2 VN)
  refine⟨_,rfl,_,rfl,b,_,rfl,(hB.same VN).or,rfl,Zq _,_,rfl,?_⟩;rw[Zy];refine Xc (λTg=>?_) (λTg=>?_)
  .exact q1 hT hO (λh=>h.2 Tg) H2 VN
  have kC:=hT.1.all z hz;refine⟨_,rfl,_,rfl,_,rfl,w,a,n,ps,kd,T',z,rfl,hW.same VN,hG,hA.same VN,hT.1,λcA H3 s3 hcA0 Co=>?_⟩;have GW:=VN.trans s3
  refine⟨_,rfl,_,rfl,_,rfl,w,b,n,ps,ke,W,z,rfl,hW.same GW,hG,hB.same GW,z0,z1,λ_ _ _ _ ms Wh TQ rA H4 s4 kB SF=>?_,λ_ h=>(h.elim Tg λh=>h kC).elim,λh=>absurd hO h⟩;have IU:=GW.trans s4
  have j9:=s4 _ _ Co;have ml:ms.length<=20:=by
   have:=TU n ps W z W
   have:=hO.2.1
   have:=hG.2.1
   rw[Wh.length_eq,Xv,Yp];lia
  refine⟨rA,rfl,⟨_,SqT.of SF⟩,JS (K:=K) (a:=rA) (xs:=IL ms) (λj ys H7=>H7=H4/\j<=ms.length/\ys=IL ((ms.take j).filter λy=>decide (y∈VQ n ps T' z/\y≠z))) ⟨rfl,Yk _,rfl⟩ (Zh (by rw[XB];lia))
    (λj ys H7 hj h=>by obtain⟨e,SK,ey⟩:=h;exact⟨e ▸ SqT.of SF,by rw[ey,XB];exact Yv (YF ..) (by rw[Yj];lia)⟩) ?_ ?_⟩
  .rintro j x ys H7 hj ⟨rfl,Ow,rfl⟩ S Xq;obtain⟨y,rfl,hy⟩:=ZW hj;have WT:j<ms.length:=(Xm.mp hy).1
   refine nm ?_;refine⟨_,rfl,_,rfl,cA,_,rfl,.inr (SqT.of j9),rfl,Zq _,_,rfl,?_⟩;rw[Zy];refine Xc (λh1=>?_) (λh1=>?_)
   .refine⟨_,rfl,_,rfl,rfl,_,rfl,?_⟩;rw[ZD];refine WX (λh2=>?_) (λh2=>?_)
    .refine Xq _ _ ⟨rfl,WT,?_⟩;rw[Zw hy,if_neg (λh=>(Yo h).2 h2),YE]
    .refine⟨_,rfl,Xq _ _ ⟨rfl,WT,?_⟩⟩;rw[Zw hy,if_pos (Yr ⟨h1,h2⟩),ZK]
   .refine Xq _ _ ⟨rfl,WT,?_⟩;rw[Zw hy,if_neg (λh=>h1 (Yo h).1),YE]
  rintro ys H7 ⟨rfl,_,rfl⟩ p hp;rw[XB,YA];have SD:∀ y,y∈ms.filter (λy=>decide (y∈VQ n ps T' z/\y≠z))↔exg n ps T' z y/\exg n ps W y z:=λy=>by
   rw[Yd,YM,Wh.mem_iff,Xr,XC,Xl];constructor
   .rintro⟨h | h,h2,h3⟩
    .exact⟨⟨hz,h3,h2⟩,⟨h.1,XG h3,h.2⟩⟩
    .exact absurd h h3
   .rintro⟨⟨_,h2,h3⟩,⟨h4,_,h6⟩⟩;exact⟨.inl ⟨h4,h6⟩,h3,h2⟩
  obtain⟨y0,nW⟩:=Nj hG hT hO hz Tg;refine⟨p,_,rfl,SqL.of XS,Ij ((SD y0).mpr nW),λy hy hmin=>?_⟩;obtain⟨e1,e2⟩:=(SD y).mp hy;exact q hT hO hz Tg y e1 e2 (λv v1 v2=>hmin v ((SD v).mpr ⟨v1,v2⟩)) _ (IU.trans (XZ hp))
def j8:Sp:=λvs H Q _=>∃ w:Str,vs=[.str w]/\(w.cps.all λc=>decide (c<128))=true/\w.length<=100000/\∀ H':Hp,Same H H'->Q (.bl (Pq w.cps.toList)) H'
theorem bD(x y:Str):decide (V.str x=V.str y)=decide (x.cps.toList=y.cps.toList):=NR.mpr ⟨λe=>by cases e;rfl,λe=>by rw[eD e]⟩
theorem j7{cs:List Nat}{c:Nat}(h:c∈Wt cs):c∈cs:=by
 unfold Wt at h;split at h
 .exact List.mem_of_mem_tail h
 .exact h
theorem j6(cs:List Nat):(Wt cs).length<=cs.length:=by
 unfold Wt;split
 .rw[Ax];omega
 .exact XJ _
theorem Se{l:List Nat}{f:Nat->Bool}:(l.map λc=>!f c).any id=false↔∀ c∈l,f c=true:=by
 rw[List.any_eq_false];constructor
 .intro h c hc
  have:=h (!f c) (YD.mpr ⟨c,hc,rfl⟩)
  cases e:f c with
  | true=>rfl
  | false=>rw[e]at this;exact absurd rfl this
 .intro h b hb;obtain⟨c,hc,rfl⟩:=YD.mp hb;rw[h c hc];decide
theorem Bm:FnScope ["word","figures"] ["word"] (XD sZJ):=⟨rfl,rfl,rfl,by decide +kernel,rfl,by decide +kernel,by decide +kernel⟩
theorem j5 (T:Txt K mg t):FnOk P w K mg base Xg 1 t.aZJ t.dZJ ["word"] j8:=by
 refine T.fZJ.ok Bm (λvs H Q E h=>?_) (λXw A outer s H vs Q E hr h=>?_)
 .obtain⟨w,rfl,_⟩:=h;rfl
 .obtain⟨w,rfl,ha,hl,q⟩:=h;refine⟨_,(XO (Zi (i:=1) Bm.nd rfl (Or.inl rfl) (wz (Qr (Ui K QA PySem.F.slot_str_startswith PySem.F.type_str_startswith Zd8 (pv 0) (XY Qs XX))) (ZY qb (pv 0) (RR XN) Qj) (pv 0)))
   (XO (WD (PW.pt (Sv (OM (vS Ua Ua XN (Zg ab (by rfl) T.n_len Boot.«len» (XY (pv 1) XX)) (z4 (v:=V.int 60) rfl T.g_MOST_FIGURES.choose_spec ⟨_,rfl⟩))) (Qq (Qr (Zg (ZJ8 K rfl) (by rfl) T.n_any Boot.«any» (XY (Vt rfl (sc0:=XD sZJ) (N0:=["word","figures"]) (N':=["sign"]) (o:=1) (fr:=[]) ⟨rfl,by decide +kernel,by decide +kernel,by decide +kernel,rfl,by decide +kernel⟩ (DA (pv 1)) (Zp (by decide)) (λ_ _ _ _=>(Zc (i:=0) (show List.Nodup (["sign"]:List Str) by decide +kernel) rfl (Or.inl rfl))) (λ_ _ _ _=>ZU) (λ_ _ _ _=>(NG aI (pv 0) (z4 (v:=V.str "0123456789") rfl T.g_FIGURES.choose_spec ⟨_,rfl⟩) rfl))) XX))))))
   (XI (Zj VF))
   Zn)
   (XI (Zj (wC (NG VD (pv 0) Qs (Zt _)) (NN (NG Wo (ZF vn (pv 1) XN (λ_ _=>rfl)) Qs (Zt _)))))))),?_⟩
  have hw:=Na w;have z1:100000<=sizeLine:=by decide
  refine qk (λσ H'=>H'=H/\∃ F:Str,σ=[some (.str w),some (.str F)]/\F.cps.toList=Wt w.cps.toList) ?_ ?_;rotate_left
  .intro Kn hK;refine⟨_,rfl,rfl,_,_,rfl,rfl,_,rfl,?_⟩;rw[ZV7];refine Xc (λhs=>?_) (λhs=>?_)
   .have Jc:1<=w.cps.toList.length:=by
     cases e:w.cps.toList with
     | nil=>rw[e]at hs;cases hs
     | cons c r=>simp
    have et:=Zs6 Jc;refine⟨_,rfl,_,rfl,w,rfl,?_,hK _ _ ⟨rfl,_,rfl,?_⟩⟩
    .rw[Na,et,Ax];grind
    .rw[et];unfold Wt;rw[if_pos hs]
   .refine⟨_,rfl,hK _ _ ⟨rfl,_,rfl,?_⟩⟩;unfold Wt;rw[if_neg hs]
  rintro σ H' ⟨rfl,F,rfl,hF⟩;have IE:=Na F
  have OG:=j6 w.cps.toList;have hFs:F.length<=100000:=by rw[IE,hF];lia
  have hFa:(F.cps.all λc=>decide (c<128))=true:=by rw[<- Array.all_toList,Sb]at ha ⊢;intro c hc;rw[hF]at hc;exact ha c (j7 hc)
  have bad:¬ (1<=(Wt w.cps.toList).length/\(Wt w.cps.toList).length<=60/\∀ c∈Wt w.cps.toList,48<=c/\c<=57)->∀ H2:Hp,Same H' H2->Q (.bl false) H2:=λh H2 s2=>by
   have e:Pq w.cps.toList=false:=YT λz=>h ⟨z.1,z.2.1,z.2.2.1⟩
   have:=q H2 s2
   rwa[e]at this
  refine⟨_,rfl,F,rfl,by lia,_,_,rfl,rfl,_,rfl,?_⟩;refine Xc (λh1=>?_) (λh1=>?_);rotate_left
  .refine⟨_,rfl,?_⟩;refine Wf ?_;refine Wf ?_;exact bad (λz=>h1 (by have:=z.1;rw[<- hF,<- IE]at this;lia)) _ (Same.refl _)
  refine⟨_,_,rfl,rfl,_,rfl,?_⟩;refine WX (λbC=>?_) (λbC=>?_);rotate_left
  .refine Wf ?_;exact bad (λz=>bC (by have:=z.2.1;rw[<- hF,<- IE]at this;lia)) _ (Same.refl _)
  refine⟨_,rfl,F,rfl,hFa,qa (λi ys H2=>H2=H'/\ys=((F.cps.toList.take i).map λc=>!decide (48<=c/\c<=57)).map V.bl) ⟨rfl,rfl⟩ (by show F.length<sizeLine;grind) (λi ys H2 _ ⟨_,e⟩=>by rw[e,Ya,Ya,Yj];grind) ?_ ?_⟩
  .rintro i c ys H2 hc ⟨rfl,rfl⟩ S Xq;refine Oy ?_;refine⟨_,rfl,_,_,rfl,rfl,?_⟩;rw[ZB8];refine Xq _ _ ⟨rfl,?_⟩;have Wz:F.cps.toList[i]?=some c:=by rwa[YS]
   rw[YL,Wz,YJ,YJ];rfl
  rintro ys H2 ⟨rfl,rfl⟩ p hp;rw[YO (by rw[YB];exact XJ _)];refine⟨p,_,rfl,SqL.of XS,_,rfl,?_⟩;have s3:=XZ (o:=.lst ((F.cps.toList.map λc=>!decide (48<=c/\c<=57)).map V.bl)) hp
  generalize upd H2 p (.lst ((F.cps.toList.map λc=>!decide (48<=c/\c<=57)).map V.bl))=H3 at *;cases hb:(F.cps.toList.map λc=>!decide (48<=c/\c<=57)).any id with
  | true =>
   refine Wf ?_;refine bad (λz=>?_) _ s3;rw[<- hF]at z;rw[Se.mpr λc hc=>Yr (z.2.2 c hc)]at hb;cases hb
  | false =>
   refine Uz ?_;have Wm:=Se.mp hb
   rw[hF]at Wm IE;show(_:Prop)
   refine So ?_;cases hf:Wt w.cps.toList with
   | nil=>rw[hf]at IE;simp at IE;lia
   | cons c r =>
    have hF0:Ws F.cps.toList 0=some c:=by rw[hF,hf];exact ZB (n:=0) (by decide) rfl
    refine⟨_,rfl,rfl,_,rfl,?_⟩;rw[bD];have e0:(Str.ofString "0").cps.toList=[48]:=by rfl
    rw[e0];have fin:∀ b:Bool,(b=true↔w.cps.toList=[48]\/c≠48)->Q (.bl b) H3:=λb QO=>by
     have e:Pq w.cps.toList=b:=by
      rw[Sa,QO];unfold Pq;rw[YM];constructor
      .rintro⟨_,_,_,h⟩;rcases h with h | h
       .exact .inl h
       .exact .inr λe=>h (by rw[hf,e];rfl)
      .intro h;refine⟨by lia,by lia,λx hx=>Yo (Wm x hx),?_⟩;rcases h with h | h
       .exact .inl h
       .exact .inr λe=>h (by rw[hf]at e;exact Yi e)
     have:=q H3 s3
     rwa[e]at this
    refine Xc (λh0=>?_) (λh0=>?_)
    .exact fin true ⟨λ_=>.inl h0,λ_=>rfl⟩
    .refine⟨_,rfl,F,0,c,rfl,rfl,by grind,hF0,rfl,?_⟩;rw[bD,e0];refine fin _ ⟨λh=>.inr λe=>?_,λh=>?_⟩
     .rw[e]at h;exact absurd h (by decide)
     .rcases h with h | h
      .exact absurd h h0
      .rw[YT (λe=>h (GA e).1)];rfl
def j4:Sp:=λvs H Q _=>∃ i:Int,vs=[.str (nT i)]/\-(10 ^ 60)<i/\i<10 ^ 60/\∀ H':Hp,Same H H'->Q (.int i) H'
theorem j3:FnScope ["word"] ["word"] (XD sZK):=⟨rfl,rfl,rfl,by decide +kernel,rfl,by decide +kernel,by decide +kernel⟩
theorem jZ (T:Txt K mg t):FnOk P w K mg base Xg 2 t.aZK t.dZK ["word"] j4:=by
 refine T.fZK.ok j3 (λvs H Q E h=>?_) (λXw A outer s H vs Q E hr h=>?_)
 .obtain⟨i,rfl,_⟩:=h;rfl
 .obtain⟨i,rfl,h1,h2,q⟩:=h;refine⟨_,(XO (WD (OM (Qr (Xy (j5 T) (hr.mono (by decide)) rfl T.mZJ T.fZJ.kp T.bZJ .nil Zu (XY (pv 0) XX))))
   (XI ZV)
   Zn)
   (XI (Zj (Zm ZI8 (by rfl) T.n_int Boot.«int» (XY (pv 0) XX))))),?_⟩
  have hl:=Dv (k:=60) (by decide) h1 h2;refine⟨_,rfl,nT i,rfl,pY i,by lia,λH1 s1=>⟨_,rfl,?_⟩⟩;rw[Dy,pZ h1 h2];refine Uz ?_;show(_:Prop)
  refine So ?_;exact⟨_,rfl,nT i,i,rfl,p7 (k:=60) (by decide) (by decide) h1 h2,by lia,q H1 s1⟩
def jY(K:Ad):Sp:=λvs H Q _=>∃(name:Str) (l:Ac),vs=[.str (Str.join QR (name :: l.map nT)),.str name,.int l.length]/\32∉name.cps.toList/\name.length<=100/\l.length<=10/\Told l/\∀(r:Addr) (H':Hp),Same H H'->H' r=some (.lst (IL l))->Q (.ref r) H'
theorem Bl:FnScope ["line","name","many","words"] ["line","name","many"] (XD sZL):=⟨rfl,rfl,rfl,by decide +kernel,rfl,by decide +kernel,by decide +kernel⟩
theorem Bk (T:Txt K mg t):FnOk P w K mg base Xg 3 t.aZL t.dZL ["line","name","many"] (jY K):=by
 refine T.fZL.ok Bl (λvs H Q E h=>?_) (λXw A outer s H vs Q E hr h=>?_)
 .obtain⟨name,l,rfl,_⟩:=h;rfl
 .obtain⟨name,l,rfl,hn,cx,Vd,hl,q⟩:=h;refine⟨_,(XO (Zi (i:=3) Bl.nd rfl (Or.inl rfl) (Ui K QA QB i5 eK (pv 0) (XY Qs XX)))
   (XO (WD (PW.pt (Sv (Zf Wo (ZF (Zd K) (pv 3) XN (λ_ _=>rfl)) (pv 1) (Zt _)) (Qq (Zf Wo (Zg (Zl K) (by rfl) T.n_len Boot.«len» (XY (pv 3) XX)) (Zr Uo (pv 2) XN) (Zt _)))))
   (XI ZV)
   Zn)
   (XI (Zj (Vt rfl (sc0:=XD sZL) (N0:=["line","name","many","words"]) (N':=["word"]) (o:=1) (fr:=[]) ⟨rfl,by decide +kernel,by decide +kernel,by decide +kernel,rfl,by decide +kernel⟩ (ZI K (ZY (Vl K) (pv 3) (RR XN) Qj)) (Zp (by decide)) (λ_ _ _ _=>(Zc (i:=0) (show List.Nodup (["word"]:List Str) by decide +kernel) rfl (Or.inl rfl))) (λ_ _ _ _=>ZU) (λ_ _ _ _=>(Xy (jZ T) (hr.mono (by decide)) rfl T.mZK T.fZK.kp T.bZK .nil Zu (XY (pv 0) XX)))))))),?_⟩
  have Ul:=ZE9 (l:=l) hn;have hlen:(Str.join QR (name :: l.map nT)).length<=2000:=by
   rw[Dr];refine Yv (pX (B:=100) λa ha=>?_) (by rw[Yt,Ya];lia);rcases Yh.mp ha with e | e
   .rw[e];exact cx
   .have:=pW hl a e;lia
  have z1:2000<=sizeLine:=by decide
  refine⟨_,rfl,rfl,_,_,rfl,rfl,rfl,by lia,?_,λp hp=>?_⟩
  .show(Txt.split _ QR).length<=_;rw[Ul,Yt,Ya];lia
  have e:Txt.split (Str.join QR (name :: l.map nT)) (Str.ofString " ")=name :: l.map nT:=Ul;rw[e];have u1:=XZ (o:=.lst (TL (name :: l.map nT))) hp
  have Vx:(upd H p (.lst (TL (name :: l.map nT)))) p=some (.lst (TL (name :: l.map nT))):=XS;generalize upd H p (.lst (TL (name :: l.map nT)))=H1 at *;refine nm ?_;dsimp only;refine⟨_,rfl,p,_,0,.str name,rfl,rfl,SqL.of Vx,ZB (n:=0) (by decide) rfl,_,rfl,rfl,_,rfl,?_⟩;refine PY rfl ?_;refine⟨_,rfl,p,_,rfl,.inl (SqL.of Vx),_,rfl,_,_,rfl,rfl,rfl,_,rfl,?_⟩;rw[Hj,Yt,Ya,ZD];refine PY (by lia) ?_;show(_:Prop)
  refine So ?_;refine⟨_,rfl,_,rfl,p,_,rfl,SqL.of Vx,λp2 Wg=>?_⟩;rw[zk (by decide)];have e2:(TL (name :: l.map nT)).drop (1:Int).toNat=TL (l.map nT):=rfl
  rw[e2];have u2:=XZ (o:=.lst (TL (l.map nT))) Wg
  have Si:(upd H1 p2 (.lst (TL (l.map nT)))) p2=some (.lst (TL (l.map nT))):=XS;generalize upd H1 p2 (.lst (TL (l.map nT)))=H2 at *;refine⟨p2,rfl,⟨_,SqL.of Si⟩,Sr (K:=K) (a:=p2) (xs:=TL (l.map nT)) (λi ys H3=>Same H2 H3/\ys=IL (l.take i)) ⟨Same.refl _,rfl⟩ (Zh (by rw[Hj,Ya];lia)) (λi ys H3 _ ⟨e,ey⟩=>⟨SqL.of (e _ _ Si),by rw[ey,XB,Yj];lia⟩) ?_ ?_⟩
  .rintro i v ys H3 hi ⟨s3,rfl⟩ S Xq;obtain⟨x,rfl,hx⟩:=Dl hi;rw[Yn]at hx;obtain⟨z,hz,rfl⟩:=iZ.mp hx;have hb:=hl z (Xi hz)
   refine Oy ?_;refine⟨_,rfl,z,rfl,hb.1,hb.2,λH4 s4=>Xq _ _ ⟨s3.trans s4,?_⟩⟩;rw[YL,hz];show IL (l.take i)++[V.int z]=IL (l.take i++[z])
   rw[ZK]
  rintro ys H3 ⟨s3,rfl⟩ p3 Ue;rw[Hj,Ya,YA];exact q p3 _ (u1.trans (u2.trans (s3.trans (XZ Ue)))) XS
def jX(K:Ad)(C:Addr):Sp:=λvs H Q _=>∃(n:Int) (ps:Aa) (ls:Ac),vs=[.str (Jt n ps ls)]/\Zz n ps/\ls.length=ps.length/\Told ls/\∀(t w a:Addr) (H':Hp),Same H H'->H a=none->H' t=some (.tup [.ref w,.ref a])->WebAt C H' w n ps->H' a=some (.lst (IL ls))->Q (.ref t) H'
theorem ME:FnScope ["text","lines","places","ties"] ["text"] (XD sZM):=⟨rfl,rfl,rfl,by decide +kernel,rfl,by decide +kernel,by decide +kernel⟩
theorem jW (T:Txt K mg t):FnOk P w K mg base Xg 4 t.aZM t.dZM ["text"] (jX K t.A_Web):=by
 refine T.fZM.ok ME (λvs H Q E h=>?_) (λXw A outer s H vs Q E hr h=>?_)
 .obtain⟨n,ps,ls,rfl,_⟩:=h;rfl
 .obtain⟨n,ps,ls,rfl,hG,hl,hT,q⟩:=h;refine⟨_,(XO (Zi (i:=1) ME.nd rfl (Or.inl rfl) (Ui K QA QB i5 eK (pv 0) (XY Qs XX)))
   (XO (Zi (i:=2) ME.nd rfl (Or.inl rfl) (Xy (Bk T) (hr.mono (by decide)) rfl T.mZL T.fZL.kp T.bZL .nil Zu (XY (ZF (Zd K) (pv 1) XN (λ_ _=>rfl)) (XY Qs (XY XN XX)))))
   (XO (OE (i:=3) rfl ME.nd rfl rfl (sc0:=XD sZM) (N0:=["text","lines","places","ties"]) (N':=["line"]) (o:=1) (fr:=[]) ⟨rfl,by decide +kernel,by decide +kernel,by decide +kernel,rfl,by decide +kernel⟩ (ZI K (ZY (Vl K) (pv 1) (RR XN) Qj)) (Zp (by decide)) (λ_ _ _ _=>(Zc (i:=0) (show List.Nodup (["line"]:List Str) by decide +kernel) rfl (Or.inl rfl))) (λ_ _ _ _=>ZU) (λ_ _ _ _=>(Xy (Bk T) (hr.mono (by decide)) rfl T.mZL T.fZL.kp T.bZL .nil Zu (XY (pv 0) (XY Qs (XY XN XX))))))
   (XI (Zj (UB (XY (FG T.k_Web (Cm T) (hr.mono (by decide)) rfl T.c_Web T.bZ8 .nil Zu (XY (ZF (Zd K) (pv 2) XN (λ_ _=>rfl)) (XY (Vt rfl (sc0:=XD sZM) (N0:=["text","lines","places","ties"]) (N':=["tie"]) (o:=1) (fr:=[]) ⟨rfl,by decide +kernel,by decide +kernel,by decide +kernel,rfl,by decide +kernel⟩ (ZI K (pv 3)) (Zp (by decide)) (λ_ _ _ _=>(Zc (i:=0) (show List.Nodup (["tie"]:List Str) by decide +kernel) rfl (Or.inl rfl))) (λ_ _ _ _=>ZU) (λ_ _ _ _=>(UB (XY (ZF (Zd K) (pv 0) XN (λ_ _=>rfl)) (XY (ZF (Zd K) (pv 0) XN (λ_ _=>rfl)) XX))))) XX))) (XY (Vt rfl (sc0:=XD sZM) (N0:=["text","lines","places","ties"]) (N':=["tie"]) (o:=1) (fr:=[]) ⟨rfl,by decide +kernel,by decide +kernel,by decide +kernel,rfl,by decide +kernel⟩ (ZI K (pv 3)) (Zp (by decide)) (λ_ _ _ _=>(Zc (i:=0) (show List.Nodup (["tie"]:List Str) by decide +kernel) rfl (Or.inl rfl))) (λ_ _ _ _=>ZU) (λ_ _ _ _=>(ZF (Zd K) (pv 0) XN (λ_ _=>rfl)))) XX)))))))),?_⟩
  have jV:=hG.2.2.1;have Cc:=hG.1
  have OL:=hG.2.1;have two:2<=sizeLine:=by decide
  have z1:100000<=sizeLine:=by decide
  have wl:=Jq (n:=n) hl;have Ul:=pV (n:=n) (ps:=ps) (ls:=ls)
  have tlen:(Jt n ps ls).length<=100000:=by unfold Jt;rw[Jr];refine Yv (pX (B:=400) (Dk hG hT)) (by rw[wl];lia)
  refine⟨_,rfl,rfl,_,_,rfl,rfl,rfl,by lia,?_,λp hp=>?_⟩
  .show(Txt.split _ Ds).length<=_;rw[Ul,wl];lia
  have e:Txt.split (Jt n ps ls) (Str.ofString "\n")=WB n ps ls:=Ul;rw[e];have u1:=XZ (o:=.lst (TL (WB n ps ls))) hp
  have Vx:(upd H p (.lst (TL (WB n ps ls)))) p=some (.lst (TL (WB n ps ls))):=XS;generalize upd H p (.lst (TL (WB n ps ls)))=H1 at *;refine nm ?_;dsimp only;refine⟨_,rfl,p,_,0,.str (Str.ofString "places "++nT n),rfl,rfl,SqL.of Vx,ZB (n:=0) (by decide) rfl,Str.ofString "places",[n],by rw [eA];rfl,by decide,by decide,(show 1<=10 by decide),λz hz=>by rw [XC.mp hz];omega,λpA H2 s2 nX=>?_⟩;refine nm ?_;dsimp only;have Wg:=s2 _ _ Vx
  refine⟨_,rfl,_,rfl,p,_,rfl,SqL.of Wg,λp2 Si=>?_⟩;rw[zk (by decide)];have e2:(TL (WB n ps ls)).drop (1:Int).toNat=TL (List.zipWith Ry ps ls):=rfl
  rw[e2];have u3:=XZ (o:=.lst (TL (List.zipWith Ry ps ls))) Si
  have h3:(upd H2 p2 (.lst (TL (List.zipWith Ry ps ls)))) p2=some (.lst (TL (List.zipWith Ry ps ls))):=XS;have jU:=u3 _ _ nX
  generalize upd H2 p2 (.lst (TL (List.zipWith Ry ps ls)))=H3 at *;have zl:(List.zipWith Ry ps ls).length=ps.length:=by rw[Od];grind
  obtain⟨R,hR⟩:∃ R,R=List.zipWith (λ(p:Int × Int) l=>[p.1,p.2,l]) ps ls:=⟨_,rfl⟩;have Rl:R.length=ps.length:=by rw[hR,Od];grind
  have Rat:∀(i:Nat) (p:Int × Int) (l:Int),ps[i]?=some p->ls[i]?=some l->R[i]?=some [p.1,p.2,l]:=λi p l h1 h2=>by rw[hR,Mv,h1,h2]
  refine⟨p2,rfl,⟨_,SqL.of h3⟩,Sr (K:=K) (a:=p2) (xs:=TL (List.zipWith Ry ps ls)) (λi ys H4=>Same H3 H4/\i<=ps.length/\Bears (VR H4) ys (R.take i)) ⟨Same.refl _,Yk _,⟨rfl,λi a e=>by simp at e⟩⟩ (Zh (by rw[Hj,zl];lia)) (λi ys H4 _ ⟨e,hi,h⟩=>⟨SqL.of (e _ _ h3),by rw[h.1,Yj];lia⟩) ?_ ?_⟩
  .rintro i v ys H4 hi ⟨s4,Vh,hB⟩ S Xq;obtain⟨x,rfl,hx⟩:=Dl hi;have VO:i<ps.length:=by rw[<- zl];exact(Xm.mp hx).1
   obtain⟨pp,QI⟩:∃ pp,ps[i]?=some pp:=⟨_,Xu VO⟩;obtain⟨l,Vd⟩:∃ l,ls[i]?=some l:=⟨_,Xu (by lia)⟩;rw[Mv,QI,Vd]at hx;obtain rfl:Ry pp l=x:=Yi hx;refine Oy ?_;refine⟨_,rfl,Str.ofString "tie",[pp.1,pp.2,l],rfl,by decide,by decide,(show 3<=10 by decide),Jp hG hT QI Vd,λr H5 s5 hr=>Xq _ _ ⟨s4.trans s5,VO,?_⟩⟩;rw[YL,Rat i pp l QI Vd];exact(hB.imp λ_ _ ⟨r,e,h⟩=>⟨r,e,s5 _ _ h⟩).snoc ⟨r,rfl,hr⟩
  rintro ys H4 ⟨s4,_,hB⟩ p3 Ue;rw[Hj,zl,YO (by lia)]at hB;have u5:=XZ (o:=.lst ys) Ue
  have h5:(upd H4 p3 (.lst ys)) p3=some (.lst ys):=XS;have jT:Bears (VR (upd H4 p3 (.lst ys))) ys R:=hB.imp λ_ _ ⟨r,e,h⟩=>⟨r,e,u5 _ _ h⟩
  have jS:=(s4.trans u5) _ _ jU;have xX:=u1.trans (s2.trans (u3.trans (s4.trans u5)))
  generalize upd H4 p3 (.lst ys)=H5 at *;have MQ:=jT.1
  refine nm ?_;dsimp only;have Bj:∀(i:Nat) (row:Ac),R[i]?=some row->∃(p:Int × Int) (l:Int),ps[i]?=some p/\ls[i]?=some l/\row=[p.1,p.2,l]:=λi row h=>by
   have VO:i<ps.length:=by rw[<- Rl];exact(Xm.mp h).1
   obtain⟨pp,QI⟩:∃ pp,ps[i]?=some pp:=⟨_,Xu VO⟩;obtain⟨l,Vd⟩:∃ l,ls[i]?=some l:=⟨_,Xu (by lia)⟩;rw[Rat i pp l QI Vd]at h;exact⟨pp,l,QI,Vd,(Yi h).symm⟩
  refine⟨_,rfl,pA,_,0,.int n,rfl,rfl,SqL.of jS,ZB (n:=0) (by decide) rfl,_,rfl,p3,rfl,⟨_,SqL.of h5⟩,Sr (K:=K) (a:=p3) (xs:=ys) (λi us H6=>Same H5 H6/\i<=ys.length/\PairsV H6 us (ps.take i)) ⟨Same.refl _,Yk _,PairsV.nil⟩ (Zh (by lia)) (λi us H6 _ ⟨e,hi,h⟩=>⟨SqL.of (e _ _ h5),by rw[h.1,Yj];lia⟩) ?_ ?_⟩
  .rintro i v us H6 hi ⟨s6,Vh,hU⟩ S Xq;obtain⟨row,IA,r,rfl,hr⟩:=jT.at hi;obtain⟨pp,l,QI,Vd,rfl⟩:=Bj i row IA;have Xf:=(Xm.mp hi).1
   refine Oy ?_;refine⟨_,rfl,r,_,0,.int pp.1,rfl,rfl,SqL.of (s6 _ _ hr),ZB (n:=0) (by decide) rfl,_,rfl,r,_,1,.int pp.2,rfl,rfl,SqL.of (s6 _ _ hr),ZB (n:=1) (by decide) rfl,two,λc hc=>Xq _ _ ⟨s6.trans (XZ hc),Xf,?_⟩⟩;rw[YL,QI];exact(hU.same (XZ hc)).snoc ⟨c,rfl,XS⟩
  rintro us H6 ⟨s6,_,hU⟩ lA BC;rw[MQ,Rl,YA]at hU;have u7:=XZ (o:=.lst us) BC
  have h7:(upd H6 lA (.lst us)) lA=some (.lst us):=XS;have hU7:=hU.same u7
  have Tw:=s6.trans u7;generalize upd H6 lA (.lst us)=H7 at *;intro x dx nx Og MJ;have t1:Same H7 (upd (upd H7 dx (.own x)) x (.ins t.A_Web dx [])):=Zs (XZ Og) (by rwa[Za (XG MJ)])
  refine⟨x,dx,n,lA,false,us,ps,rfl,XS,λo=>?_,hU7.same t1,hG,λH8 hW k3=>⟨rfl,?_⟩⟩
  .exact(ZA nx t1).seq (SqL.of h7)
  have s8:Same H7 H8:=λb o e=>k3 b o (t1 b o e) (Zb e nx);have h8:=(Tw.trans s8) _ _ h5
  have hB8:Bears (VR H8) ys R:=jT.imp λ_ _ ⟨r,e,h⟩=>⟨r,e,(Tw.trans s8) _ _ h⟩;refine⟨_,rfl,p3,rfl,⟨_,SqL.of h8⟩,Sr (K:=K) (a:=p3) (xs:=ys) (λi us H9=>H9=H8/\us=IL (ls.take i)) ⟨rfl,rfl⟩ (Zh (by omega)) (λi us H9 _ ⟨e,h⟩=>⟨e ▸ SqL.of h8,by rw[h,XB,Yj];lia⟩) ?_ ?_⟩
  .rintro i v us H9 hi ⟨rfl,rfl⟩ S Xq;obtain⟨row,IA,r,rfl,hr⟩:=hB8.at hi;obtain⟨pp,l,QI,Vd,rfl⟩:=Bj i row IA;refine Oy ?_;refine⟨_,rfl,r,_,2,.int l,rfl,rfl,SqL.of hr,ZB (n:=2) (by decide) rfl,Xq _ _ ⟨rfl,?_⟩⟩;rw[YL,Vd];show IL (ls.take i)++[V.int l]=IL (ls.take i++[l])
   rw[ZK]
  rintro us9 H9 ⟨rfl,rfl⟩ aA bB;rw[MQ,Rl,<- hl,YA];have u9:=XZ (o:=.lst (IL ls)) bB
  have bA:=xX.trans (Tw.trans s8);refine⟨two,λtA Vr=>?_⟩;have jR:=XZ (o:=.tup [.ref x,.ref aA]) Vr
  exact q tA x aA _ (bA.trans (u9.trans jR)) (bA.free bB) XS (hW.same (u9.trans jR)) (jR _ _ XS)
def jQ(K:Ad):Sp:=λvs H Q _=>∃(a:Addr) (ns:Ac) (k:Int),vs=[.ref a,.int k]/\SqL K H a (IL ns)/\0<=k/\∀ r:Int,0<=r->r<10 ^ 60->Q (.int r) H
theorem jP:FnScope ["script","k"] ["script","k"] (XD sZN):=⟨rfl,rfl,rfl,by decide +kernel,rfl,by decide +kernel,by decide +kernel⟩
theorem jO (T:Txt K mg t):FnOk P w K mg base Xg 1 t.aZN t.dZN ["script","k"] (jQ K):=by
 refine T.fZN.ok jP (λvs H Q E h=>?_) (λXw A outer s H vs Q E hr h=>?_)
 .obtain⟨a,ns,k,rfl,_⟩:=h;rfl
 .obtain⟨a,ns,k,rfl,hS,hk,q⟩:=h;refine⟨_,(XO (WD (Zf SW (pv 1) (Zg (Zl K) (by rfl) T.n_len Boot.«len» (XY (pv 0) XX)) (Zt _))
   (XI (Zj (Zr ZO (ZF (Zd K) (pv 0) (pv 1) (λ_ _=>rfl)) (Zr Mc XN XN))))
   Zn)
   (XI (Zj XN))),?_⟩
  refine⟨_,rfl,_,rfl,a,_,rfl,.inl hS,_,_,rfl,rfl,_,rfl,?_⟩;refine Fi (λhc=>?_) (λ_=>?_)
  .have hc:=Yo hc;rw[XB]at hc;obtain⟨z,hz⟩:∃ z,ns[k.toNat]?=some z:=⟨_,Xu (by lia)⟩;refine⟨_,rfl,_,rfl,a,_,k,.int z,rfl,rfl,hS,ZB (n:=k.toNat) (by lia) (by rw[Yn,hz];rfl),_,_,rfl,rfl,⟨by decide,by decide,by decide⟩,_,_,rfl,rfl,?_,?_⟩
   .show(0:Int)<10 ^ 60;decide
   .exact q _ (YY _ (by decide)) (YZ _ (by decide))
  .exact q 0 (by decide) (by decide)
def jN:Sp:=λvs H Q _=>∃(c k:Int),vs=[.int c,.int k]/\∀ r:Int,0<=r->r<2147483587->Q (.int r) H
theorem Iz:FnScope ["cell","k","first","second"] ["cell","k"] (XD sZO):=⟨rfl,rfl,rfl,by decide +kernel,rfl,by decide +kernel,by decide +kernel⟩
theorem Bi (T:Txt K mg t):FnOk P w K mg base Xg 1 t.aZO t.dZO ["cell","k"] jN:=by
 refine T.fZO.ok Iz (λvs H Q E h=>?_) (λXw A outer s H vs Q E hr h=>?_)
 .obtain⟨c,k,rfl,_⟩:=h;rfl
 .obtain⟨c,k,rfl,q⟩:=h;refine⟨_,(XO (Zi (i:=2) Iz.nd rfl (Or.inl rfl) (Zr ZO (Zr Ql (Zr Uo (Zr Uo (pv 0) (Zr Ql XN (pv 1))) XN) XN) XN))
   (XO (Zi (i:=3) Iz.nd rfl (Or.inl rfl) (Zr ZO (Zr Uo (Zr Uo (Zr Ql (pv 2) (pv 2)) (Zr Ql XN (pv 1))) XN) XN))
   (XI (Zj (Zr QX (Zr ZO (Zr Ql (pv 3) (pv 3)) XN) XN))))),?_⟩
  refine⟨_,rfl,_,rfl,_,_,rfl,rfl,.inl ⟨by decide,by decide⟩,_,_,rfl,rfl,_,_,rfl,rfl,_,_,rfl,rfl,.inr ⟨by decide,by decide⟩,_,_,rfl,rfl,(by show(0:Int)<2147483647;decide),?_⟩;have f0:0<=((c+7919 * k+1) * 48271) % 2147483647:=YY _ (by decide)
  have f1:((c+7919 * k+1) * 48271) % 2147483647<2147483647:=YZ _ (by decide);refine⟨_,rfl,_,rfl,_,_,rfl,rfl,.inl ⟨by grind,by grind⟩,_,rfl,_,_,rfl,rfl,.inl ⟨by decide,by decide⟩,_,_,rfl,rfl,_,_,rfl,rfl,_,_,rfl,rfl,(by show(0:Int)<2147483629;decide),?_⟩;generalize ((c+7919 * k+1) * 48271) % 2147483647=u at *;have g0:0<=(u * u+40692 * k+3) % 2147483629:=YY _ (by decide)
  have g1:(u * u+40692 * k+3) % 2147483629<2147483629:=YZ _ (by decide);refine⟨_,rfl,_,rfl,_,_,rfl,rfl,.inl ⟨by grind,by grind⟩,_,_,rfl,rfl,(by show(0:Int)<2147483587;decide),_,_,rfl,rfl,⟨by decide,by decide⟩,?_⟩;generalize (u * u+40692 * k+3) % 2147483629=v at *;have h0:0<=(v * v) % 2147483587:=YY _ (by decide)
  have h1:(v * v) % 2147483587<2147483587:=YZ _ (by decide);generalize (v * v) % 2147483587=x at *;exact q _ (by lia) (by lia)
theorem jM{p:Int->Prop}{l:Ac}{x:Int}(h:∀ z∈l,p z)(hx:p x):∀ z∈l++[x],p z:=λz hz=>by
 rcases Xr.mp hz with q | q
 .exact h z q
 .rw[XC.mp q];exact hx
def jL(K:Ad):Sp:=λvs H Q _=>∃(a:Addr) (ns:Ac) (st c:Nat) (way:Int),vs=[.ref a,.int st,.int c,.int way]/\SqL K H a (IL ns)/\ns.length<=63/\st<=63/\c<=100 /\
 ∀(l:Addr) (ds:Ac) (H':Hp),Same H H'->H l=none->H' l=some (.lst (IL ds))->ds.length=c->(∀ z∈ds,0<=z)->Q (.ref l) H'
theorem Tu:FnScope ["script","start","count","way","total","folded","k","at","told"] ["script","start","count","way"] (XD sZP):=⟨rfl,rfl,rfl,by decide +kernel,rfl,by decide +kernel,by decide +kernel⟩
theorem jK (T:Txt K mg t):FnOk P w K mg base Xg 2 t.aZP t.dZP ["script","start","count","way"] (jL K):=by
 refine T.fZP.ok Tu (λvs H Q E h=>?_) (λXw A outer s H vs Q E hr h=>?_)
 .obtain⟨a,ns,st,c,way,rfl,_⟩:=h;rfl
 .obtain⟨a,ns,st,c,way,rfl,hS,hn,VE,hc,q⟩:=h;refine⟨_,(XO (Zi (i:=4) Tu.nd rfl (Or.inl rfl) (Zr ZO (Zg (tW K rfl) (by rfl) T.n_sum Boot.«sum» (XY (Vt rfl (sc0:=XD sZP) (N0:=["script","start","count","way","total","folded","k","at","told"]) (N':=["cell"]) (o:=1) (fr:=[]) ⟨rfl,by decide +kernel,by decide +kernel,by decide +kernel,rfl,by decide +kernel⟩ (ZI K (ZY (Vl K) (pv 0) (RR (pv 1)) Qj)) (Zp (by decide)) (λ_ _ _ _=>(Zc (i:=0) (show List.Nodup (["cell"]:List Str) by decide +kernel) rfl (Or.inl rfl))) (λ_ _ _ _=>ZU) (λ_ _ _ _=>(Zr ZO (pv 0) (Zr Mc XN XN)))) XX)) (Zr Mc XN XN)))
   (XO (OE (i:=5) rfl Tu.nd rfl rfl (sc0:=XD sZP) (N0:=["script","start","count","way","total","folded","k","at","told"]) (N':=["k"]) (o:=1) (fr:=[]) ⟨rfl,by decide +kernel,by decide +kernel,by decide +kernel,rfl,by decide +kernel⟩ (UD rfl T.n_range (XY (pv 2) XX)) (Zp (by decide)) (λ_ _ _ _=>(Zc (i:=0) (show List.Nodup (["k"]:List Str) by decide +kernel) rfl (Or.inl rfl))) (λ_ _ _ _=>ZU) (λ_ _ _ _=>(Zr Uo (Zr Ql XN (pv 0)) XN)))
   (XO (Vb YQ rfl (vZ rfl T.n_range (XY (pv 1) (XY (Zg (Zl K) (by rfl) T.n_len Boot.«len» (XY (pv 0) XX)) XX))) (Zc (i:=6) Tu.nd rfl (Or.inl rfl))
   (XO (Zi (i:=7) Tu.nd rfl (Or.inl rfl) (Zr ZO (pv 6) (Zg (zV rfl) (by rfl) T.n_max Boot.«max» (XY XN (XY (pv 2) XX)))))
   (XI (WD (Zf UC (pv 2) XN (Zt _))
   (XI (Gf (Zr ZO (Zr Uo (Zr Ql (ZF (Zd K) (pv 5) (pv 7) (λ_ _=>rfl)) XN) (ZF (Zd K) (pv 0) (pv 6) (λ_ _=>rfl))) (Zr Mc XN XN)) (Mf (pv 5) (pv 7) RQ)))
   Zn))))
   (XO (Zi (i:=8) Tu.nd rfl (Or.inl rfl) (UA XX))
   (XO (Vb YQ rfl (UD rfl T.n_range (XY (pv 2) XX)) (Zc (i:=6) Tu.nd rfl (Or.inl rfl))
   (XI (WD (PW.pt (HK (Zf VD (pv 3) XN (Zt _)) (RT (Zf UC (pv 4) XN (Zt _)))))
   (XO (ZN (Ui K YW Mw Mz LZ (pv 8) (XY (Zr ZO (pv 4) XN) XX)))
   (XI (Zi (i:=4) Tu.nd rfl (Or.inl rfl) (Zr QX (pv 4) XN))))
   (XI (ZN (Ui K YW Mw Mz LZ (pv 8) (XY (Xy (Bi T) (hr.mono (by decide)) rfl T.mZO T.fZO.kp T.bZO .nil Zu (XY (ZF (Zd K) (pv 5) (pv 6) (λ_ _=>rfl)) (XY (pv 6) XX))) XX)))))))
   (XI (Zj (pv 8)))))))),?_⟩
  refine⟨_,rfl,_,rfl,(st:Int),rfl,a,IL ns,rfl,hS,λl1 Tx=>?_⟩;have s1:Same H (upd H l1 (.lst (Xh (IL ns) (some (st:Int)) none))):=XZ Tx
  obtain⟨ms,bx,Ov⟩:∃ ms:Ac,Xh (IL ns) (some (st:Int)) none=IL ms/\ms.length<=63:=by
   refine⟨(ns.drop (HT.VC (IL ns).length 0 (some (st:Int)))).take (HT.VC (IL ns).length (IL ns).length none - HT.VC (IL ns).length 0 (some (st:Int))),?_,?_⟩
   .unfold Xh;rw[gS,uc]
   .rw[Yj,Wx];lia
  refine⟨l1,rfl,⟨_,SqL.of XS⟩,Sr (K:=K) (a:=l1) (xs:=Xh (IL ns) (some (st:Int)) none) (λi ys H2=>H2=upd H l1 (.lst (Xh (IL ns) (some (st:Int)) none))/\∃ rs:Ac,ys=IL rs/\rs.length=i/\i<=ms.length) ⟨rfl,[],rfl,rfl,Yk _⟩ (by rw[bx,XB];exact Zh (by lia))
   (λi ys H2 _ ⟨e,rs,ey,el,_⟩=>⟨e ▸ SqL.of XS,by rw[ey,XB];lia⟩) ?_ ?_⟩
  .rintro i x ys H2 hi ⟨rfl,rs,rfl,el,Vh⟩ S Xq;rw[bx]at hi;obtain⟨z,rfl,hz⟩:=ZW hi;have Xe:=(Xm.mp hz).1
   refine Oy ?_;refine⟨_,rfl,_,_,rfl,rfl,⟨by decide,by decide,by decide⟩,_,_,rfl,rfl,(by show(0:Int)<10 ^ 60;decide),?_⟩;refine Xq _ _ ⟨rfl,rs++[z % 10 ^ 60],?_,?_,Xe⟩
   .exact(ZK _ _).symm
   .rw[Xv,el];rfl
  .rintro ys H2 ⟨rfl,rs,rfl,el,_⟩ l2 Su;have s2:=Zs (o:=.lst (IL rs)) s1 Su
   refine⟨l2,rs,rfl,SqL.of XS,_,_,rfl,rfl,⟨by decide,by decide,by decide⟩,_,_,rfl,rfl,(by show(0:Int)<10 ^ 60;decide),?_⟩;have t0:0<=rs.sum % (10:Int) ^ ((60:Int).toNat):=YY _ (by decide)
   refine⟨_,rfl,(c:Int),rfl,by lia,by lia,zK (lo:=0) (n:=((c:Int)).toNat) (λi ys H3=>H3=upd (upd H l1 (.lst (Xh (IL ns) (some (st:Int)) none))) l2 (.lst (IL rs))/\∃ fs:Ac,ys=IL fs/\fs.length=i) ⟨rfl,[],rfl,rfl⟩ (Zh (by lia))
    (λi ys H3 _ ⟨_,fs,e,el⟩=>by rw[e,XB];lia) ?_ ?_⟩
   .rintro i ys H3 hi ⟨rfl,fs,rfl,LR⟩ S Xq;refine Oy ?_;refine⟨_,rfl,_,_,rfl,rfl,.inl ⟨by decide,by decide⟩,_,_,rfl,rfl,?_⟩;refine Xq _ _ ⟨rfl,fs++[7 * (0+(i:Int))+5],?_,?_⟩
    .exact(ZK _ _).symm
    .rw[Xv,LR];rfl
   .rintro ys H3 ⟨rfl,fs,rfl,LR⟩ l3 QK;have s3:=Zs (o:=.lst (IL fs)) s2 QK
    have jJ:H l3=none:=s2.free QK;refine⟨_,rfl,_,rfl,a,_,rfl,.inl (s3.seq hS),(st:Int),((IL ns).length:Int),rfl,⟨by lia,by lia,by lia,by rw[XB];lia⟩,?_⟩;refine HI (lo:=(st:Int)) (n:=(((IL ns).length:Int) - (st:Int)).toNat) (λj σ H4=>∃(fs:Ac) (v6 v7:Option V),σ=[some (.ref a),some (.int st),some (.int c),some (.int way),some (.int (rs.sum % (10:Int) ^ ((60:Int).toNat))),some (.ref l3),v6,v7,none]/\Same H H4/\H4 l3=some (.lst (IL fs))/\fs.length=c)
     ⟨fs,none,none,rfl,s3,XS,by rw[LR];simp⟩ ?_ ?_
    .rintro j σ H4 hj ⟨gs,v6,v7,rfl,s4,h4,eg⟩;rw[XB]at hj;refine⟨_,rfl,_,rfl,_,_,rfl,_,_,rfl,rfl,?_,?_⟩
     .show(0:Int)<if (c:Int) > 1 then (c:Int) else 1
      split <;> lia
     .refine⟨_,rfl,_,_,rfl,rfl,_,rfl,?_⟩;refine Xc (λQM=>?_) (λQM=>?_)
      .have Jf:(if (c:Int) > 1 then (c:Int) else 1)=(c:Int):=by split <;> lia
       have jI:0<=((st:Int)+(j:Int)) % (c:Int):=YY _ (by lia);have at1:((st:Int)+(j:Int)) % (c:Int)<(c:Int):=YZ _ QM
       rw[Jf];generalize xW:((st:Int)+(j:Int)) % (c:Int)=at' at *;obtain⟨f,hf⟩:∃ f,gs[at'.toNat]?=some f:=⟨_,Xu (by grind)⟩;obtain⟨z,hz⟩:∃ z,ns[st+j]?=some z:=⟨_,Xu (by lia)⟩;refine⟨_,rfl,_,rfl,l3,_,_,_,rfl,rfl,SqL.of h4,ZB (n:=at'.toNat) (by lia) (by rw[Yn,hf];rfl),_,_,rfl,rfl,.inr ⟨by decide,by decide⟩,_,rfl,_,rfl,a,_,_,_,rfl,rfl,s4.seq hS,ZB (n:=st+j) (by lia) (by rw[Yn,hz];rfl),_,_,rfl,rfl,_,_,rfl,rfl,⟨by decide,by decide,by decide⟩,_,_,rfl,rfl,(by show(0:Int)<10 ^ 60;decide),?_⟩;refine⟨_,rfl,_,rfl,l3,_,_,at'.toNat,rfl,rfl,h4,?_,?_⟩
       .rw[xW];unfold OJ;rw[if_pos jI,if_pos (by rw[XB];grind)]
       .refine⟨gs.set at'.toNat ((f * 31+z) % (10:Int) ^ ((60:Int).toNat)),_,_,rfl,ZA jJ s4,?_,by rwa[Mn]⟩;rw[XS,EX]
      .exact⟨gs,_,_,rfl,s4,h4,eg⟩
    .rintro σ H4 ⟨gs,v6,v7,rfl,s4,h4,eg⟩;refine⟨Yk _,λl5 Iy=>?_⟩;have SA:H l5=none:=s4.free Iy
     have GR:l3≠l5:=Zb h4 Iy;refine⟨_,rfl,(c:Int),rfl,by lia,by lia,HI (lo:=0) (n:=((c:Int)).toNat) (λj σ H6=>∃(UI:Int) (ds:Ac) (v6 v7:Option V),σ=[some (.ref a),some (.int st),some (.int c),some (.int way),some (.int UI),some (.ref l3),v6,v7,some (.ref l5)]/\Same H H6/\H6 l3=some (.lst (IL gs))/\H6 l5=some (.lst (IL ds))/\ds.length=j/\(∀ z∈ds,0<=z)/\0<=UI)
      ⟨_,[],_,_,rfl,Zs s4 Iy,by rw[Za GR];exact h4,XS,rfl,λz hz=>(by cases hz),t0⟩ ?_ ?_⟩
     .rintro j σ H6 hj ⟨UI,ds,w6,w7,rfl,s6,GQ,Lf,Bh,OB,Iw⟩;have jc:j<c:=by lia
      have app:∀ r:Int,(upd H6 l5 (.lst (IL ds++[.int r]))) l5=some (.lst (IL (ds++[r]))):=λr=>by rw[XS,ZK]
      have Iv:(IL ds).length<sizeLine:=by rw[XB];exact Zh (by lia)
      obtain⟨f,hf⟩:∃ f,gs[j]?=some f:=⟨_,Xu (by lia)⟩;refine⟨_,rfl,rfl,_,rfl,?_⟩;refine Xc (λhw=>?_) (λhw=>?_)
      .refine⟨_,rfl,_,_,rfl,rfl,_,rfl,?_⟩;refine Xc (λCk=>?_) (λCk=>?_)
       .refine⟨_,rfl,.inl ⟨rfl,_,SqL.of Lf⟩,_,rfl,_,_,rfl,rfl,(by show(0:Int)<210;decide),l5,_,_,rfl,rfl,Lf,Iv,?_⟩;refine⟨_,rfl,_,_,rfl,rfl,⟨by decide,by decide⟩,?_⟩;refine⟨_,ds++[UI % 210],_,_,rfl,ZA SA s6,by rw[Za GR];exact GQ,app _,by rw[Xv,Bh];rfl,jM OB (YY _ (by decide)),?_⟩;lia
       .refine⟨_,rfl,.inl ⟨rfl,_,SqL.of Lf⟩,_,rfl,_,rfl,l3,_,_,_,rfl,rfl,SqL.of GQ,ZB (n:=j) (by lia) (by rw[Yn,hf];rfl),_,rfl,_,_,rfl,λr r0 r1=>?_⟩;refine⟨l5,_,_,rfl,rfl,Lf,Iv,?_⟩;exact⟨_,ds++[r],_,_,rfl,ZA SA s6,by rw[Za GR];exact GQ,app _,by rw[Xv,Bh];rfl,jM OB r0,Iw⟩
      .refine⟨_,rfl,.inl ⟨rfl,_,SqL.of Lf⟩,_,rfl,_,rfl,l3,_,_,_,rfl,rfl,SqL.of GQ,ZB (n:=j) (by omega) (by rw[Yn,hf];rfl),_,rfl,_,_,rfl,λr r0 r1=>?_⟩;refine⟨l5,_,_,rfl,rfl,Lf,Iv,?_⟩;exact⟨_,ds++[r],_,_,rfl,ZA SA s6,by rw[Za GR];exact GQ,app _,by rw[Xv,Bh];rfl,jM OB r0,Iw⟩
     .rintro σ H6 ⟨UI,ds,w6,w7,rfl,s6,GQ,Lf,Bh,OB,Iw⟩;exact⟨_,rfl,q l5 ds H6 s6 SA Lf (by lia) OB⟩
theorem PairsV.good{H:Hp}{xs:List V}{ps:Aa}{v:V}{p:Int × Int}{n:Int}(h:∀ p∈ps,0<=p.1/\p.1<n/\0<=p.2/\p.2<n)(hp:0<=p.1/\p.1<n/\0<=p.2/\p.2<n):∀ q∈ps++[p],0<=q.1/\q.1<n/\0<=q.2/\q.2<n:=λq hq=>by
 rcases Xr.mp hq with z | z
 .exact h q z
 .rw[XC.mp z];exact hp
def jH(K:Ad):Sp:=λvs H Q _=>∃(a:Addr) (ds:Ac) (n:Int) (hang:Bool),vs=[.ref a,.int n,.bl hang]/\SqL K H a (IL ds)/\ds.length<=100/\(∀ z∈ds,0<=z)/\1<=n/\n<=1000 /\
 ∀(l:Addr) (xs:List V) (ps:Aa) (H':Hp),Same H H'->H l=none->H' l=some (.lst xs)->PairsV H' xs ps->ps.length=ds.length->(∀ p∈ps,0<=p.1/\p.1<n/\0<=p.2/\p.2<n)->Q (.ref l) H'
theorem Ur:FnScope ["draws","places","hang","ties","k","one","other","ends","turn"] ["draws","places","hang"] (XD sZQ):=⟨rfl,rfl,rfl,by decide +kernel,rfl,by decide +kernel,by decide +kernel⟩
theorem jG (T:Txt K mg t):FnOk P w K mg base Xg 1 t.aZQ t.dZQ ["draws","places","hang"] (jH K):=by
 refine T.fZQ.ok Ur (λvs H Q E h=>?_) (λXw A outer s H vs Q E hr h=>?_)
 .obtain⟨a,ds,n,hang,rfl,_⟩:=h;rfl
 .obtain⟨a,ds,n,hang,rfl,hS,qM,OB,n1,n2,q⟩:=h;refine⟨_,(XO (Zi (i:=3) Ur.nd rfl (Or.inl rfl) (UA XX))
   (XO (Vb YQ rfl (UD rfl T.n_range (XY (Zg (Zl K) (by rfl) T.n_len Boot.«len» (XY (pv 0) XX)) XX)) (Zc (i:=4) Ur.nd rfl (Or.inl rfl))
   (XO (Zi (i:=5) Ur.nd rfl (Or.inl rfl) (Zr ZO (ZF (Zd K) (pv 0) (pv 4) (λ_ _=>rfl)) (pv 1)))
   (XO (Zi (i:=6) Ur.nd rfl (Or.inl rfl) (Zr ZO (Zr QX (ZF (Zd K) (pv 0) (pv 4) (λ_ _=>rfl)) (pv 1)) (pv 1)))
   (XO (WD (PW.pt (HK (Qr (pv 2)) (RT (Zf SW (pv 4) (Zr VS (pv 1) XN) (Zt _)))))
   (XO (Zi (i:=7) Ur.nd rfl (Or.inl rfl) (UB (XY (Zr ZO (ZF (Zd K) (pv 0) (pv 4) (λ_ _=>rfl)) (Zr Uo (pv 4) XN)) (XY (Zr Uo (pv 4) XN) XX))))
   (XO (Zi (i:=5) Ur.nd rfl (Or.inl rfl) (ZF (ZJ K) (pv 7) (Zr ZO (Zr QX (ZF (Zd K) (pv 0) (pv 4) (λ_ _=>rfl)) XN) XN) (λ_ _=>rfl)))
   (XI (Zi (i:=6) Ur.nd rfl (Or.inl rfl) (ZF (ZJ K) (pv 7) (Zr VS XN (Zr ZO (Zr QX (ZF (Zd K) (pv 0) (pv 4) (λ_ _=>rfl)) XN) XN)) (λ_ _=>rfl))))))
   Zn)
   (XI (ZN (Ui K YW Mw Mz LZ (pv 3) (XY (UB (XY (pv 5) (XY (pv 6) XX))) XX))))))))
   (XO (Zi (i:=8) Ur.nd rfl (Or.inl rfl) (Zr ZO (Zg (tW K rfl) (by rfl) T.n_sum Boot.«sum» (XY (pv 0) XX)) (Zg (zV rfl) (by rfl) T.n_max Boot.«max» (XY XN (XY (Zg (Zl K) (by rfl) T.n_len Boot.«len» (XY (pv 3) XX)) XX)))))
   (XI (Zj (Zr Fo (ZY (Vl K) (pv 3) (RR (pv 8)) Qj) (ZY (Vl K) (pv 3) Qj (RR (pv 8))))))))),?_⟩
  refine⟨Yk _,λl hl=>?_⟩;refine⟨_,rfl,a,_,rfl,.inl ((XZ hl).seq hS),_,rfl,by lia,by rw[XB];omega,HI (lo:=0) (n:=((IL ds).length:Int).toNat) (λi σ H2=>∃(xs:List V) (ps:Aa) (v4 v5 v6 v7:Option V),σ=[some (.ref a),some (.int n),some (.bl hang),some (.ref l),v4,v5,v6,v7,none]/\Same H H2/\H2 l=some (.lst xs)/\PairsV H2 xs ps/\ps.length=i/\∀ p∈ps,0<=p.1/\p.1<n/\0<=p.2/\p.2<n)
   ⟨[],[],none,none,none,none,rfl,XZ hl,XS,PairsV.nil,rfl,λp hp=>(by cases hp)⟩ ?_ ?_⟩
  .rintro i σ H2 hi ⟨xs,ps,v4,v5,v6,v7,rfl,s2,h2,hP,Ha,hb⟩;have PN:i<ds.length:=by rw[XB]at hi;lia
   obtain⟨d,hd⟩:∃ d,ds[i]?=some d:=⟨_,Xu PN⟩;have d0:0<=d:=OB d (Xi hd)
   have iD:Ws (IL ds) (0+(i:Int))=some (.int d):=ZB (n:=i) (by lia) (WI hd);have xl:xs.length<sizeLine:=Zh (by rw[hP.1];lia)
   have put:∀(x y:Int) (H3:Hp) (r:Addr),Same H2 H3->H3 r=none->0<=x->x<n->0<=y->y<n->∀ u5 u6 u7:Option V,∃(bw:List V) (jF:Aa) (v4 v5 v6 v7:Option V),
     ([some (.ref a),some (.int n),some (.bl hang),some (.ref l),some (.int (0+(i:Int))),u5,u6,u7,none]:List (Option V))=[some (.ref a),some (.int n),some (.bl hang),some (.ref l),v4,v5,v6,v7,none] /\
     Same H (upd (upd H3 r (.tup [.int x,.int y])) l (.lst (xs++[.ref r])))/\(upd (upd H3 r (.tup [.int x,.int y])) l (.lst (xs++[.ref r]))) l=some (.lst bw)/\PairsV (upd (upd H3 r (.tup [.int x,.int y])) l (.lst (xs++[.ref r]))) bw jF/\jF.length=i+1/\∀ p∈jF,0<=p.1/\p.1<n/\0<=p.2/\p.2<n:=by
    intro x y H3 r s3 hr x0 x1 y0 y1 u5 u6 u7;have h3:=s3 _ _ h2
    have s4:=Zs (o:=.tup [.int x,.int y]) s3 hr;have nlr:l≠r:=Zb h3 hr
    refine⟨xs++[.ref r],ps++[(x,y)],_,_,_,_,rfl,ZA hl (s2.trans s4),XS,?_,by rw[Xv,Ha];rfl,PairsV.good (H:=H) (xs:=[]) (v:=.non) hb ⟨x0,x1,y0,y1⟩⟩;have bu:PairsV (upd H3 r (.tup [.int x,.int y])) (xs++[.ref r]) (ps++[(x,y)]):=(hP.same s4).snoc ⟨r,rfl,XS⟩
    refine⟨bu.1,λj p e=>?_⟩;obtain⟨v,e1,tt,e2,e3⟩:=bu.2 j p e;exact⟨v,e1,tt,e2,by rwa[Za (VG e3 (s4 _ _ h2) (λz=>nomatch z))]⟩
   refine⟨_,rfl,_,rfl,a,_,_,_,rfl,rfl,s2.seq hS,iD,_,rfl,_,_,rfl,rfl,(by show 0<n;lia),?_⟩;refine⟨_,rfl,_,rfl,a,_,_,_,rfl,rfl,s2.seq hS,iD,_,rfl,_,_,rfl,rfl,⟨by show 0<n;omega,by show n<1073741824;lia⟩,_,rfl,_,_,rfl,rfl,(by show 0<n;omega),?_⟩;have o0:0<=d % n:=YY _ (by lia)
   have o1:d % n<n:=YZ _ (by omega);have q0:0<=d / n % n:=YY _ (by omega)
   have q1:d / n % n<n:=YZ _ (by omega);refine⟨_,rfl,_,rfl,?_⟩;refine gR (λhh=>?_) (λhh=>?_)
   .refine⟨_,rfl,_,rfl,_,_,rfl,rfl,_,_,rfl,rfl,_,rfl,?_⟩;refine Xc (λhk=>?_) (λhk=>?_)
    .have k1:(0:Int)<0+(i:Int)+1:=by lia
     have r0:0<=d % (0+(i:Int)+1):=YY _ (by lia);have r1:d % (0+(i:Int)+1)<0+(i:Int)+1:=YZ _ k1
     refine⟨_,rfl,_,rfl,a,_,_,_,rfl,rfl,s2.seq hS,iD,_,rfl,_,_,rfl,rfl,_,_,rfl,rfl,k1,_,rfl,_,_,rfl,rfl,(by show 2<=sizeLine;decide),λe he=>?_⟩;have se:=XZ (o:=.tup [.int (d % (0+(i:Int)+1)),.int (0+(i:Int)+1)]) he
     have m0:0<=d / 105 % 2:=YY _ (by decide);have m1:d / 105 % 2<2:=YZ _ (by decide)
     obtain⟨x,hx,x0,x1⟩:∃ x:Int,Ws ([.int (d % (0+(i:Int)+1)),.int (0+(i:Int)+1)]:List V) (d / 105 % 2)=some (.int x)/\0<=x/\x<n:=by
      rcases(by lia:d / 105 % 2=0\/d / 105 % 2=1) with e | e
      .rw[e];exact⟨_,rfl,r0,by lia⟩
      .rw[e];exact⟨_,rfl,by lia,by lia⟩
     obtain⟨y,hy,y0,y1⟩:∃ y:Int,Ws ([.int (d % (0+(i:Int)+1)),.int (0+(i:Int)+1)]:List V) (1 - d / 105 % 2)=some (.int y)/\0<=y/\y<n:=by
      rcases(by lia:d / 105 % 2=0\/d / 105 % 2=1) with e | e
      .rw[e];exact⟨_,rfl,by lia,by lia⟩
      .rw[e];exact⟨_,rfl,r0,by lia⟩
     have c2:FT d 105:=⟨by decide,by decide⟩;refine⟨_,rfl,_,rfl,_,rfl,a,_,_,_,rfl,rfl,(s2.trans se).seq hS,iD,_,_,rfl,rfl,c2,_,_,rfl,rfl,(by show(0:Int)<2;decide),e,_,_,_,rfl,rfl,SqT.of XS,hx,?_⟩;refine⟨_,rfl,_,rfl,_,rfl,a,_,_,_,rfl,rfl,(s2.trans se).seq hS,iD,_,_,rfl,rfl,c2,_,_,rfl,rfl,(by show(0:Int)<2;decide),_,_,rfl,rfl,e,_,_,_,rfl,rfl,SqT.of XS,hy,?_⟩;refine⟨_,rfl,.inl ⟨rfl,_,SqL.of (se _ _ h2)⟩,_,rfl,_,rfl,(by show 2<=sizeLine;decide),λr hr=>?_⟩;exact⟨l,xs,_,rfl,rfl,(Zs se hr) _ _ h2,xl,put x y _ r se hr x0 x1 y0 y1 _ _ _⟩
    .refine⟨_,rfl,.inl ⟨rfl,_,SqL.of h2⟩,_,rfl,_,rfl,(by show 2<=sizeLine;decide),λr hr=>?_⟩;exact⟨l,xs,_,rfl,rfl,(XZ hr) _ _ h2,xl,put _ _ _ r (Same.refl _) hr o0 o1 q0 q1 _ _ _⟩
   .refine⟨_,rfl,.inl ⟨rfl,_,SqL.of h2⟩,_,rfl,_,rfl,(by show 2<=sizeLine;decide),λr hr=>?_⟩;exact⟨l,xs,_,rfl,rfl,(XZ hr) _ _ h2,xl,put _ _ _ r (Same.refl _) hr o0 o1 q0 q1 _ _ _⟩
  .rintro σ H2 ⟨xs,ps,v4,v5,v6,v7,rfl,s2,h2,hP,Ha,hb⟩;have Ha:ps.length=ds.length:=by rw[Ha,XB];simp
   refine⟨_,rfl,a,ds,rfl,s2.seq hS,_,rfl,l,xs,rfl,.inl (SqL.of h2),_,_,rfl,_,_,rfl,rfl,?_,?_⟩
   .show(0:Int)<if (xs.length:Int) > 1 then (xs.length:Int) else 1
    split <;> lia
   .generalize hT:ds.sum % (if (xs.length:Int) > 1 then (xs.length:Int) else 1)=T0;have T1:0<=T0:=by rw[<- hT];exact YY _ (by split <;> lia)
    have T2:T0.toNat<=xs.length:=by
     have:T0<(if (xs.length:Int) > 1 then (xs.length:Int) else 1):=by rw[<- hT];exact YZ _ (by split <;> lia)
     split at this <;> grind
    have e1:Xh xs (some T0) none=xs.drop T0.toNat:=tZ T1 T2;have e2:Xh xs none (some T0)=xs.take T0.toNat:=ER T1 T2
    refine⟨_,rfl,_,rfl,T0,Xx V.int hT,l,xs,rfl,SqL.of h2,λr1 VH=>?_⟩;have s3:=XZ (o:=.lst (Xh xs (some T0) none)) VH
    refine⟨_,rfl,_,rfl,T0,Xx V.int hT,l,xs,rfl,SqL.of (s3 _ _ h2),λr2 Vy=>?_⟩;have s4:=Zs (o:=.lst (Xh xs none (some T0))) s3 Vy
    have n12:r1≠r2:=Zb XS Vy;refine⟨r1,r2,_,_,rfl,rfl,by rw[Za n12,XS],XS,?_,λr hr=>?_⟩
    .rw[e1,e2,Wx,Yj];exact OA (by rw[hP.1];grind)
    .have s5:=Zs (o:=.lst (Xh xs (some T0) none++Xh xs none (some T0))) s4 hr;refine q r _ (ps.drop T0.toNat++ps.take T0.toNat) _ (s2.trans s5) ((s2.trans s4).free hr) XS ?_ ?_ λp hp=>?_
     .have z:=((hP.same s5).drop T0.toNat).app ((hP.same s5).take T0.toNat);rwa[<- e1,<- e2]at z
     .rw[Xv,Wx,Yj,<- hP.1]
      have:=hP.1
      grind
     .rcases Xr.mp hp with z | z
      .exact hb p (List.mem_of_mem_drop z)
      .exact hb p (Ig z)
def jE(K:Ad):Sp:=λvs H Q _=>∃(a:Addr) (ns:Ac) (most count:Int),vs=[.ref a,.int most,.int count]/\SqL K H a (IL ns)/\ns.length<=63/\1<=most/\most<=14/\0<=count/\count<=30 /\
 ∀(r l:Addr) (n:Int) (xs:List V) (ps:Aa) (H':Hp),Same H H'->H' r=some (.tup [.int n,.ref l])->H l=none->H' l=some (.lst xs)->PairsV H' xs ps->Zz n ps->n<=most->(ps.length:Int)<=count->Q (.ref r) H'
theorem OX:FnScope ["script","most","count","head","places","many","draws"] ["script","most","count"] (XD sZR):=⟨rfl,rfl,rfl,by decide +kernel,rfl,by decide +kernel,by decide +kernel⟩
theorem jD (T:Txt K mg t):FnOk P w K mg base Xg 3 t.aZR t.dZR ["script","most","count"] (jE K):=by
 refine T.fZR.ok OX (λvs H Q E h=>?_) (λXw A outer s H vs Q E hr h=>?_)
 .obtain⟨a,ns,most,count,rfl,_⟩:=h;rfl
 .obtain⟨a,ns,most,count,rfl,hS,hn,m1,m2,c1,c2,q⟩:=h;refine⟨_,(XO (Zi (i:=3) OX.nd rfl (Or.inl rfl) (Xy (jO T) (hr.mono (by decide)) rfl T.mZN T.fZN.kp T.bZN .nil Zu (XY (pv 0) (XY XN XX))))
   (XO (Zi (i:=4) OX.nd rfl (Or.inl rfl) (Zr Uo XN (Zr ZO (pv 3) (pv 1))))
   (XO (Zi (i:=5) OX.nd rfl (Or.inl rfl) (Zg (Qk rfl) (by rfl) T.n_min Boot.«min» (XY (pv 2) (XY (Zr Uo (Zr ZO (Zr QX (pv 3) (pv 1)) (Zr Uo (pv 2) XN)) (Zr Ql (Zr ZO (Zr QX (pv 3) XN) XN) (pv 4))) XX))))
   (XO (Zi (i:=6) OX.nd rfl (Or.inl rfl) (Xy (jK T) (hr.mono (by decide)) rfl T.mZP T.fZP.kp T.bZP .nil Zu (XY (pv 0) (XY XN (XY (pv 5) (XY (Zr ZO (Zr QX (pv 3) XN) XN) XX))))))
   (XI (Zj (UB (XY (pv 4) (XY (Xy (jG T) (hr.mono (by decide)) rfl T.mZQ T.fZQ.kp T.bZQ .nil Zu (XY (pv 6) (XY (pv 4) (XY (NG UC (Zr ZO (Zr QX (pv 3) XN) XN) XN (Zt _)) XX)))) XX))))))))),?_⟩
  refine⟨_,rfl,a,ns,0,rfl,hS,by decide,λhd h0 h1=>?_⟩;have n0:0<=hd % most:=YY _ (by lia)
  have n1:hd % most<most:=YZ _ (by lia);refine⟨_,rfl,_,rfl,_,_,rfl,rfl,(by show 0<most;omega),_,_,rfl,rfl,?_⟩;refine⟨_,rfl,_,rfl,_,rfl,_,_,rfl,rfl,⟨by show 0<most;omega,by show most<1073741824;lia⟩,_,rfl,_,_,rfl,rfl,_,_,rfl,rfl,(by show 0<count+1;lia),_,rfl,_,_,rfl,rfl,⟨by decide,by decide⟩,_,_,rfl,rfl,(by show(0:Int)<2;decide),_,rfl,_,_,rfl,rfl,.inr ⟨by show -(2 ^ 64)<1+hd % most;lia,by show 1+hd % most<2 ^ 64;lia⟩,_,_,rfl,rfl,_,_,rfl,?_⟩;have e0:0<=hd / most % (count+1):=YY _ (by lia)
  have f0:0<=hd / 97 % 2:=YY _ (by decide);have g0:0<=hd / 97 % 2 * (1+hd % most):=Int.mul_nonneg f0 (by lia)
  obtain⟨c,hc⟩:∃ c:Nat,(if hd / most % (count+1)+hd / 97 % 2 * (1+hd % most)<count then hd / most % (count+1)+hd / 97 % 2 * (1+hd % most) else count)=(c:Int) :=
   ⟨(if hd / most % (count+1)+hd / 97 % 2 * (1+hd % most)<count then hd / most % (count+1)+hd / 97 % 2 * (1+hd % most) else count).toNat,by split <;> lia⟩
  have k1:(c:Int)<=count:=by rw[<- hc];split <;> grind
  refine⟨_,rfl,_,rfl,_,rfl,_,_,rfl,rfl,⟨by decide,by decide⟩,_,_,rfl,rfl,(by show(0:Int)<2;decide),a,ns,1,c,_,Xx (λz:Int=>[V.ref a,V.int 1,V.int z,V.int (hd / 194 % 2)]) hc,hS,hn,by decide,by lia,λl ds H1 s1 QS Tx Bh OB=>?_⟩;refine⟨_,rfl,_,rfl,_,rfl,_,rfl,_,_,rfl,rfl,⟨by decide,by decide⟩,_,_,rfl,rfl,(by show(0:Int)<3;decide),_,_,rfl,rfl,l,ds,_,_,rfl,SqL.of Tx,by lia,OB,(by show 1<=1+hd % most;lia),(by show 1+hd % most<=1000;lia),λl2 xs ps H2 s2 jC jB hP ePl hb=>?_⟩;refine⟨(by show 2<=sizeLine;decide),λr hr=>?_⟩;have s3:=XZ (o:=.tup [.int (1+hd % most),.ref l2]) hr
  exact q r l2 (1+hd % most) xs ps _ ((s1.trans s2).trans s3) XS (s1.free jC) (s3 _ _ jB) (hP.same s3) ⟨by lia,by lia,by lia,hb⟩ (by lia) (by lia)
def jA(K:Ad):Sp:=λvs H Q _=>∃(a:Addr) (ns:Ac) (c:Nat),vs=[.ref a,.int c]/\SqL K H a (IL ns)/\ns.length<=63/\c<=30 /\
 ∀(r:Addr) (l:Ac) (H':Hp),Same H H'->H r=none->H' r=some (.lst (IL l))->l.length=c->Told l->Q (.ref r) H'
theorem Rh:FnScope ["script","count","folded","k","told","m"] ["script","count"] (XD sZS):=⟨rfl,rfl,rfl,by decide +kernel,rfl,by decide +kernel,by decide +kernel⟩
theorem jz (T:Txt K mg t):FnOk P w K mg base Xg 2 t.aZS t.dZS ["script","count"] (jA K):=by
 refine T.fZS.ok Rh (λvs H Q E h=>?_) (λXw A outer s H vs Q E hr h=>?_)
 .obtain⟨a,ns,c,rfl,_⟩:=h;rfl
 .obtain⟨a,ns,c,rfl,hA,Iu,hc,q⟩:=h;refine⟨_,(XO (OE (i:=2) rfl Rh.nd rfl rfl (sc0:=XD sZS) (N0:=["script","count","folded","k","told","m"]) (N':=["k"]) (o:=1) (fr:=[]) ⟨rfl,by decide +kernel,by decide +kernel,by decide +kernel,rfl,by decide +kernel⟩ (UD rfl T.n_range (XY (pv 1) XX)) (Zp (by decide)) (λ_ _ _ _=>(Zc (i:=0) (show List.Nodup (["k"]:List Str) by decide +kernel) rfl (Or.inl rfl))) (λ_ _ _ _=>ZU) (λ_ _ _ _=>(Zr Uo (Zr Ql XN (pv 0)) XN)))
   (XO (Vb YQ rfl (UD rfl T.n_range (XY (Zg (Zl K) (by rfl) T.n_len Boot.«len» (XY (pv 0) XX)) XX)) (Zc (i:=3) Rh.nd rfl (Or.inl rfl))
   (XI (WD (Zf UC (pv 1) XN (Zt _))
   (XI (Gf (Zr ZO (Zr Uo (Zr Ql (ZF (Zd K) (pv 2) (Zr ZO (pv 3) (pv 1)) (λ_ _=>rfl)) XN) (ZF (Zd K) (pv 0) (pv 3) (λ_ _=>rfl))) (Zr Mc XN XN)) (Mf (pv 2) (Zr ZO (pv 3) (pv 1)) RQ)))
   Zn)))
   (XO (Zi (i:=4) Rh.nd rfl (Or.inl rfl) (UA XX))
   (XO (Vb YQ rfl (UD rfl T.n_range (XY (pv 1) XX)) (Zc (i:=3) Rh.nd rfl (Or.inl rfl))
   (XO (Zi (i:=5) Rh.nd rfl (Or.inl rfl) (Xy (Bi T) (hr.mono (by decide)) rfl T.mZO T.fZO.kp T.bZO .nil Zu (XY (ZF (Zd K) (pv 2) (pv 3) (λ_ _=>rfl)) (XY (Zr Uo XN (pv 3)) XX))))
   (XI (ZN (Ui K YW Mw Mz LZ (pv 4) (XY (ZF (Zd K) (UA (XY (Zr ZO (Zr QX (pv 5) XN) XN) (XY (Zr VS (Zr ZO (Zr QX (pv 5) XN) XN) XN) (XY XN (XY (Zr VS (Zr ZO (ZF (Zd K) (pv 2) (pv 3) (λ_ _=>rfl)) (Zr Ql XN (Zr Mc XN XN))) (Zr Mc XN XN)) XX))))) (Zr ZO (pv 5) XN) (λ_ _=>rfl)) XX))))))
   (XI (Zj (pv 4))))))),?_⟩
  have four:4<=sizeLine:=by decide
  refine⟨_,rfl,(c:Int),rfl,by lia,by lia,zK (lo:=0) (n:=((c:Int)).toNat) (λi ys H3=>H3=H/\∃ fs:Ac,ys=IL fs/\fs.length=i) ⟨rfl,[],rfl,rfl⟩ (Zh (by lia)) (λi ys H3 _ ⟨_,fs,e,el⟩=>by rw[e,XB];lia) ?_ ?_⟩
  .rintro i ys H3 hi ⟨rfl,fs,rfl,LR⟩ S Xq;refine Oy ?_;refine⟨_,rfl,_,_,rfl,rfl,.inl ⟨by decide,by decide⟩,_,_,rfl,rfl,?_⟩;refine Xq _ _ ⟨rfl,fs++[5 * (0+(i:Int))+2],?_,?_⟩
   .exact(ZK _ _).symm
   .rw[Xv,LR];rfl
  rintro ys H3 ⟨rfl,fs,rfl,LR⟩ l3 QK;have s3:=XZ (o:=.lst (IL fs)) QK
  refine nm ?_;dsimp only;refine⟨_,rfl,a,_,rfl,.inl (s3.seq hA),_,rfl,by lia,by rw[XB];omega,HI (lo:=0) (n:=((IL ns).length:Int).toNat) (λj σ H4=>∃(fs:Ac) (v3:Option V),σ=[some (.ref a),some (.int c),some (.ref l3),v3,none,none]/\Same H3 H4/\H4 l3=some (.lst (IL fs))/\fs.length=c) ⟨fs,none,rfl,s3,XS,by rw[LR];lia⟩ ?_ ?_⟩
  .rintro j σ H4 hj ⟨gs,v3,rfl,s4,h4,eg⟩;rw[XB]at hj;refine nm ?_;dsimp only;refine⟨_,rfl,_,_,rfl,rfl,_,rfl,?_⟩;refine Xc (λQM=>?_) (λ_=>⟨gs,_,rfl,s4,h4,eg⟩);have jI:0<=(0+(j:Int)) % (c:Int):=YY _ (by lia)
   have at1:(0+(j:Int)) % (c:Int)<(c:Int):=YZ _ QM;generalize xW:(0+(j:Int)) % (c:Int)=at' at *;obtain⟨f,hf⟩:∃ f,gs[at'.toNat]?=some f:=⟨_,Xu (by grind)⟩;obtain⟨z,hz⟩:∃ z,ns[j]?=some z:=⟨_,Xu (by lia)⟩;refine⟨_,rfl,_,rfl,_,rfl,_,_,rfl,rfl,QM,l3,_,_,_,rfl,rfl,SqL.of h4,by rw[xW];exact ZB (n:=at'.toNat) (by lia) (WI hf),_,_,rfl,rfl,.inr ⟨by decide,by decide⟩,_,rfl,_,rfl,a,_,_,_,rfl,rfl,s4.seq hA,ZB (n:=j) (by lia) (WI hz),_,_,rfl,rfl,_,_,rfl,rfl,⟨by decide,by decide,by decide⟩,_,_,rfl,rfl,(by show(0:Int)<10 ^ 60;decide),?_⟩;refine⟨_,rfl,_,rfl,_,rfl,_,_,rfl,rfl,QM,l3,_,_,at'.toNat,rfl,rfl,h4,?_,?_⟩
   .rw[xW];unfold OJ;rw[if_pos jI,if_pos (by rw[XB];grind)]
   .refine⟨gs.set at'.toNat ((f * 7+z) % (10:Int) ^ ((60:Int).toNat)),_,rfl,ZA QK s4,?_,by rwa[Mn]⟩;rw[XS,EX]
  rintro σ H4 ⟨gs,v3,rfl,s4,h4,eg⟩;refine⟨Yk _,λl5 Iy=>?_⟩;have GR:l3≠l5:=Zb h4 Iy
  have SA:H3 l5=none:=s4.free Iy;have u5:=XZ (o:=.lst []) Iy
  have s5:=s4.trans u5;have h35:=u5 _ _ h4
  have h55:(upd H4 l5 (.lst [])) l5=some (.lst (IL [])):=XS;generalize upd H4 l5 (.lst [])=H5 at *;refine nm ?_;dsimp only;refine⟨_,rfl,_,rfl,by lia,by lia,HI (lo:=0) (n:=((c:Int)).toNat) (λj σ H6=>∃(L:Ac) (v3 v5:Option V),σ=[some (.ref a),some (.int c),some (.ref l3),v3,some (.ref l5),v5]/\Same H3 H6/\H6 l3=some (.lst (IL gs))/\H6 l5=some (.lst (IL L))/\L.length=j/\Told L) ⟨[],v3,none,rfl,s5,h35,h55,rfl,λz hz=>(by cases hz)⟩ ?_ ?_⟩;rotate_left
  .rintro σ H6 ⟨L,w3,w5,rfl,s6,_,xV,hL,hT⟩;exact⟨_,rfl,q l5 L H6 s6 SA xV (by lia) hT⟩
  rintro j σ H6 hj ⟨L,w3,w5,rfl,s6,jy,xV,hL,hT⟩;obtain⟨f,hf⟩:∃ f,gs[j]?=some f:=⟨_,Xu (by grind)⟩;have br:Ws (IL gs) (0+(j:Int))=some (.int f):=ZB (n:=j) (by lia) (WI hf)
  refine nm ?_;dsimp only;refine⟨_,rfl,_,rfl,l3,_,_,_,rfl,rfl,SqL.of jy,br,_,rfl,_,_,rfl,rfl,_,_,rfl,λm m0 m1=>?_⟩;refine nm ?_;dsimp only;have d8:0<=m / 8:=by lia
  refine⟨_,rfl,.inl ⟨rfl,_,SqL.of xV⟩,_,rfl,_,_,rfl,rfl,⟨by decide,by decide⟩,_,_,rfl,rfl,(by show(0:Int)<5;decide),_,rfl,_,_,rfl,rfl,⟨by decide,by decide⟩,_,_,rfl,rfl,(by show(0:Int)<19;decide),_,_,rfl,rfl,_,rfl,_,rfl,l3,_,_,_,rfl,rfl,SqL.of jy,br,_,_,rfl,rfl,⟨by decide,by decide,by decide⟩,_,_,rfl,rfl,.inl ⟨by decide,by decide⟩,_,_,rfl,rfl,(by show(0:Int)<2 * 10 ^ 59;decide),_,_,rfl,rfl,⟨by decide,by decide,by decide⟩,_,_,rfl,rfl,four,λc4 x6=>?_⟩;obtain⟨x,hx,hxb⟩:∃ x:Int,Ws (IL [m / 8 % 5,m / 8 % 19 - 9,1,f % (2 * 10 ^ (59:Int).toNat) - 10 ^ (59:Int).toNat]) (m % 4)=some (.int x)/\(-(10 ^ 60)<x/\x<(10:Int) ^ 60):=by
   have p59:(10:Int) ^ (59:Int).toNat=10 ^ 59:=rfl;have e4:0<=f % (2 * 10 ^ 59)/\f % (2 * 10 ^ 59)<2 * 10 ^ 59:=⟨YY _ (by decide),YZ _ (by decide)⟩
   rcases(by lia:m % 4=0\/m % 4=1\/m % 4=2\/m % 4=3) with e | e | e | e <;> rw[e]
   .exact⟨_,rfl,by grind⟩
   .exact⟨_,rfl,by grind⟩
   .exact⟨_,rfl,by lia⟩
   .refine⟨_,rfl,?_⟩;rw[p59];lia
  have w1:=XZ (o:=.lst (IL [m / 8 % 5,m / 8 % 19 - 9,1,f % (2 * 10 ^ (59:Int).toNat) - 10 ^ (59:Int).toNat])) x6;refine⟨_,rfl,_,_,rfl,rfl,(by show(0:Int)<4;decide),c4,_,_,.int x,rfl,rfl,SqL.of XS,hx,?_⟩;refine⟨l5,_,_,rfl,rfl,w1 _ _ xV,Zh (by rw[XB];grind),L++[x],_,_,rfl,ZA SA (s6.trans w1),?_,by rw[XS,ZK],by rw[Xv,hL];rfl,λz hz=>(Xr.mp hz).elim (hT z) λh=>by rwa[XC.mp h]⟩;rw[Za GR];exact w1 _ _ jy
def jx(K:Ad):Sp:=λvs H Q _=>∃(n:Int) (a b:Addr) (xs:List V) (ps:Aa) (ls:Ac),vs=[.int n,.ref a,.ref b]/\SqL K H a xs/\PairsV H xs ps/\SqL K H b (IL ls)/\Zz n ps/\ls.length=ps.length/\Told ls/\∀ H':Hp,Same H H'->Q (.str (Jt n ps ls)) H'
theorem MD:FnScope ["places","ties","lengths","lines","k","words"] ["places","ties","lengths"] (XD sZT):=⟨rfl,rfl,rfl,by decide +kernel,rfl,by decide +kernel,by decide +kernel⟩
theorem jw (T:Txt K mg t):FnOk P w K mg base Xg 1 t.aZT t.dZT ["places","ties","lengths"] (jx K):=by
 refine T.fZT.ok MD (λvs H Q E h=>?_) (λXw A outer s H vs Q E hr h=>?_)
 .obtain⟨n,a,b,xs,ps,ls,rfl,_⟩:=h;rfl
 .obtain⟨n,a,b,xs,ps,ls,rfl,hA,hP,hB,hG,hl,hT,q⟩:=h;refine⟨_,(XO (Zi (i:=3) MD.nd rfl (Or.inl rfl) (UA (XY (Zr aH Qs (Zm yS (by rfl) T.n_str Boot.«str» (XY (pv 0) XX))) XX)))
   (XO (Vb YQ rfl (UD rfl T.n_range (XY (Zg (Zl K) (by rfl) T.n_len Boot.«len» (XY (pv 1) XX)) XX)) (Zc (i:=4) MD.nd rfl (Or.inl rfl))
   (XO (Zi (i:=5) MD.nd rfl (Or.inl rfl) (UA (XY Qs (XY (Zm yS (by rfl) T.n_str Boot.«str» (XY (ZF (ZJ K) (ZF (Zd K) (pv 1) (pv 4) (λ_ _=>rfl)) XN (λ_ _=>rfl)) XX)) (XY (Zm yS (by rfl) T.n_str Boot.«str» (XY (ZF (ZJ K) (ZF (Zd K) (pv 1) (pv 4) (λ_ _=>rfl)) XN (λ_ _=>rfl)) XX)) XX)))))
   (XI (ZN (Ui K YW Mw Mz LZ (pv 3) (XY (Ui K QA iW iX (eN K) Qs (XY (Zr Fo (pv 5) (UA (XY (Zm yS (by rfl) T.n_str Boot.«str» (XY (ZF (Zd K) (pv 2) (pv 4) (λ_ _=>rfl)) XX)) XX))) XX)) XX))))))
   (XI (Zj (Ui K QA iW iX (eN K) Qs (XY (pv 3) XX)))))),?_⟩
  have Lq:=hP.1;have jV:=hG.2.2.1
  have Cc:=hG.1;have OL:=hG.2.1
  have one:1<=sizeLine:=by decide
  have three:3<=sizeLine:=by decide
  have z1:100000<=sizeLine:=by decide
  have nl:=Dv (i:=n) (k:=60) (by decide) (by lia) (by lia);refine⟨_,rfl,n,rfl,by lia,by lia,_,_,rfl,rfl,?_,one,λd hd=>?_⟩
  .show 7+(nT n).length<=_;lia
  have u1:=XZ (o:=.lst (TL (WB n (ps.take 0) (ls.take 0)))) hd;refine nm ?_;dsimp only;refine⟨_,rfl,a,_,rfl,.inl (u1.seq hA),_,rfl,by lia,by lia,HI (lo:=0) (n:=(xs.length:Int).toNat) (λi σ H4=>∃(v4 v5:Option V),σ=[some (.int n),some (.ref a),some (.ref b),some (.ref d),v4,v5]/\Same H H4/\H4 d=some (.lst (TL (WB n (ps.take i) (ls.take i))))) ⟨none,none,rfl,u1,XS⟩ ?_ ?_⟩
  .rintro i σ H4 hi ⟨v4,v5,rfl,s4,h4⟩;have VO:i<ps.length:=by lia
   obtain⟨v,hv⟩:∃ v,xs[i]?=some v:=⟨_,Xu (by lia)⟩;obtain⟨p,hp,tt,rfl,UR⟩:=hP.at hv;obtain⟨l,Vd⟩:∃ l,ls[i]?=some l:=⟨_,Xu (by lia)⟩;have Sd:=Jp hG hT hp Vd
   have b1:=Sd p.1 (by simp);have b2:=Sd p.2 (by simp)
   have b3:=Sd l (by simp);refine nm ?_;dsimp only;have ia:Ws xs (0+(i:Int))=some (.ref tt):=ZB (n:=i) (by lia) hv
   refine⟨_,rfl,_,rfl,a,_,_,.ref tt,rfl,rfl,s4.seq hA,ia,tt,_,0,.int p.1,rfl,rfl,SqT.of (s4 _ _ UR),rfl,p.1,rfl,by lia,by lia,_,rfl,_,rfl,a,_,_,.ref tt,rfl,rfl,s4.seq hA,ia,tt,_,1,.int p.2,rfl,rfl,SqT.of (s4 _ _ UR),rfl,p.2,rfl,by lia,by lia,three,λc hc=>?_⟩;have u2:=XZ (o:=.lst (TL [Str.ofString "tie",nT p.1,nT p.2])) hc
   have s5:=s4.trans u2;have h5:=u2 _ _ h4
   have hc5:(upd H4 c (.lst (TL [Str.ofString "tie",nT p.1,nT p.2]))) c=some (.lst (TL [Str.ofString "tie",nT p.1,nT p.2])):=XS;refine nm ?_;dsimp only;change Mg _ _ _ (upd H4 c (.lst (TL [Str.ofString "tie",nT p.1,nT p.2])));generalize upd H4 c (.lst (TL [Str.ofString "tie",nT p.1,nT p.2]))=H5 at *;refine⟨_,rfl,.inl ⟨rfl,_,SqL.of h5⟩,rfl,_,rfl,_,rfl,_,rfl,b,_,_,.int l,rfl,rfl,s5.seq hB,ZB (n:=i) (by omega) (WI Vd),l,rfl,by lia,by lia,one,λc2 VL=>?_⟩;have u3:=XZ (o:=.lst (TL [nT l])) VL
   refine⟨c,c2,_,TL [nT l],rfl,rfl,u3 _ _ hc5,XS,(show 3+1<=sizeLine by decide),λc3 hc3=>?_⟩;have u4:=XZ (o:=.lst (TL [Str.ofString "tie",nT p.1,nT p.2]++TL [nT l])) hc3
   have bq:=u3.trans u4;have wl:(WB n (ps.take i) (ls.take i)).length<=31:=by rw[Jq (by rw[Yj,Yj];lia),Yj];grind
   refine⟨_,c3,[Str.ofString "tie",nT p.1,nT p.2,nT l],rfl,rfl,SqL.of XS,?_,?_⟩
   .show JoinOk QR _=true;rw[Dr];refine d9 (B:=61) (λa ha=>?_) (by show 4 * 61+4<=_;decide);rcases Yh.mp ha with e | e
    .rw[e];decide
    .exact pW Sd a e
   refine⟨d,_,_,rfl,rfl,bq _ _ h5,Zh (by rw[Hj];lia),_,_,rfl,ZA hd (s5.trans bq),?_⟩;rw[XS];show some (HO.lst (TL (WB n (ps.take i) (ls.take i))++[.str (Ry p l)]))=_
   rw[pU,ZO7 hp Vd]
  rintro σ H4 ⟨v4,v5,rfl,s4,h4⟩;rw[show(xs.length:Int).toNat=ps.length by lia,YA,<- hl,YA]at h4;refine⟨rfl,_,rfl,_,d,_,rfl,rfl,SqL.of h4,?_,q H4 s4⟩;show JoinOk Ds _=true
  rw[Jr];exact d9 (B:=400) (Dk hG hT) (by rw[Jq hl];lia)
def jv(K:Ad):Sp:=λvs H Q _=>∃(a:Addr) (T:Ac) (o z:Int),vs=[.ref a,.int o,.int z]/\H a=some (.tup (IL T))/\T.length<=20 /\
 ∀(r:Addr) (ms:Ac) (H':Hp),Same H H'->H' r=some (.lst (IL ms))->ms.Perm (wo T o++[z])->ms.Pairwise (·<=·)->Q (.ref r) H'
theorem ju:FnScope ["tree","out","into"] ["tree","out","into"] (XD sZU):=⟨rfl,rfl,rfl,by decide +kernel,rfl,by decide +kernel,by decide +kernel⟩
theorem Bg (T:Txt K mg t):FnOk P w K mg base Xg 2 t.aZU t.dZU ["tree","out","into"] (jv K):=by
 refine T.fZU.ok ju (λvs H Q E h=>?_) (λXw A outer s H vs Q E hr h=>?_)
 .obtain⟨a,T,o,z,rfl,_⟩:=h;rfl
 .obtain⟨a,T1,o,z,rfl,hA,lT,q⟩:=h;refine⟨_,(XI (Zj (Zg (zz K) (by rfl) T.n_sorted Boot.«sorted» (XY (Zr (sv K) (Vt rfl (sc0:=XD sZU) (N0:=["tree","out","into"]) (N':=["tie","out"]) (o:=1) (fr:=[1]) ⟨rfl,by decide +kernel,by decide +kernel,by decide +kernel,rfl,by decide +kernel⟩ (JQ K (pv 0)) (Zp (by decide)) (λ_ _ _ _=>(Zc (i:=0) (show List.Nodup (["tie","out"]:List Str) by decide +kernel) rfl (Or.inl rfl))) (λ_ _ _ _=>(Wl (Zf Wo (pv 0) (pv 1) (Zt _)))) (λ_ _ _ _=>(pv 0))) (UA (XY (pv 2) XX))) XX)))),?_⟩;have one:1<=sizeLine:=by decide
  refine⟨_,rfl,a,rfl,⟨_,SqT.of hA⟩,JS (K:=K) (a:=a) (xs:=IL T1) (λk zs H4=>H4=H/\zs=IL (wo (T1.take k) o)) ⟨rfl,rfl⟩ (Zh (by rw[XB];lia)) (λk zs H4 hk h=>by obtain⟨e,ez⟩:=h;exact⟨e ▸ SqT.of hA,by rw[ez,XB];exact Yv (PM _ _) (by rw[Yj];exact KI _ _)⟩) ?_ ?_⟩
  .rintro k v zs H4 hk ⟨rfl,rfl⟩ SS Xq;obtain⟨u,rfl,hu⟩:=ZW hk;refine nm ?_;refine⟨_,rfl,_,rfl,rfl,_,rfl,?_⟩;rw[ZD];refine WX (λh=>?_) (λh=>?_)
   .refine Xq _ _ ⟨rfl,?_⟩;rw[zu hu,if_neg (by simpa using h),YE]
   .refine⟨_,rfl,Xq _ _ ⟨rfl,?_⟩⟩;rw[zu hu,if_pos h,ZK]
  rintro zs H4 ⟨rfl,rfl⟩ p1 Vx;rw[XB,YA];have u1:=XZ (o:=.lst (IL (wo T1 o))) Vx
  have k1:=XS (H:=H4) (a:=p1) (o:=.lst (IL (wo T1 o)));generalize upd H4 p1 (.lst (IL (wo T1 o)))=H5 at *;refine⟨_,rfl,one,λp2 Wg=>?_⟩;have u2:=XZ (o:=.lst [.int z]) Wg
  have k2:(upd H5 p2 (.lst [.int z])) p2=some (.lst (IL [z])):=XS;generalize upd H5 p2 (.lst [.int z])=H6 at *;have wl:=PM T1 o
  refine⟨p1,p2,_,_,rfl,rfl,SqL.of (u2 _ _ k1),SqL.of k2,OA (by rw[XB,XB];show(wo T1 o).length+1<=_;lia),λp3 Si=>?_⟩;rw[show IL (wo T1 o)++IL [z]=IL (wo T1 o++[z]) from(YJ ..).symm];have u3:=XZ (o:=.lst (IL (wo T1 o++[z]))) Si
  have k3:=XS (H:=H6) (a:=p3) (o:=.lst (IL (wo T1 o++[z])));generalize upd H6 p3 (.lst (IL (wo T1 o++[z])))=H7 at *;refine⟨p3,_,rfl,SqL.of k3,by rw[Xv];show _+1<64;lia,λms m1 m2 p4 Ue=>?_⟩;exact q p4 ms _ (u1.trans (u2.trans (u3.trans (XZ Ue)))) XS m1 m2
def jt(K:Ad)(C:Addr):Sp:=λvs H Q _=>∃(w a b:Addr) (n:Int) (ps:Aa) (T W:Ac),vs=[.ref w,.ref a,.ref b]/\WebAt C H w n ps/\Zz n ps/\H a=some (.tup (IL T))/\H b=some (.tup (IL W))/\Ze n ps T/\Ze n ps W/\∀ H':Hp,Same H H'->Q (.bl true) H'
theorem MC:FnScope ["web","one","other","walk","out","into"] ["web","one","other"] (XD sZV):=⟨rfl,rfl,rfl,by decide +kernel,rfl,by decide +kernel,by decide +kernel⟩
theorem Bf (T:Txt K mg t):FnOk P w K mg base Xg 10 t.aZV t.dZV ["web","one","other"] (jt K t.A_Web):=by
 refine T.fZV.ok MC (λvs H Q E h=>?_) (λXw A outer s H vs Q E hr h=>?_)
 .obtain⟨w,a,b,n,ps,T,W,rfl,_⟩:=h;rfl
 .obtain⟨w,a,b,n,ps,T1,W,rfl,hW,hG,hA,hB,hT,hV,q⟩:=h;refine⟨_,(XO (Zi (i:=3) MC.nd rfl (Or.inl rfl) (Xy (kD T) (hr.mono (by decide)) rfl T.mZG T.fZG.kp T.bZG .nil Zu (XY (pv 0) (XY (pv 1) (XY (pv 2) XX)))))
   (XO (WD (PW.pt (Sv (Zf Wo (Zg (Zl K) (by rfl) T.n_len Boot.«len» (XY (pv 3) XX)) (Xy (Br T) (hr.mono (by decide)) rfl T.mZF T.fZF.kp T.bZF .nil Zu (XY (pv 0) (XY (pv 1) (XY (pv 2) XX)))) (Zt _)) (Qq (Zf (EO K (t8 hr)) (Xy (ki T) (hr.mono (by decide)) rfl T.mZH T.fZH.kp T.bZH .nil Zu (XY (pv 0) (XY (pv 1) (XY (pv 3) XX)))) (pv 2) (Zt _)))))
   (XI (Zj VF))
   Zn)
   (XO (Vb YQ rfl (ZI K (pv 3)) (PV (n:=2) K rfl (Zv (Zc (i:=4) MC.nd rfl (Or.inl rfl)) (Zv (Zc (i:=5) MC.nd rfl (Or.inl rfl)) QY)))
   (XI (WD (PW.pt (Sv (Zf (ZC K) (pv 4) (pv 1) rfl) (Sv (Zf (JR K) (pv 4) (pv 2) rfl) (Sv (Zf (ZC K) (pv 5) (pv 2) rfl) (Qq (Zf (JR K) (pv 5) (pv 1) rfl))))))
   (XI (Zj VF))
   Zn)))
   (XI (Zj VF))))),?_⟩
  obtain⟨g1,g2,g3,g4⟩:=id hG;refine⟨_,rfl,_,rfl,_,rfl,w,a,b,n,ps,true,true,T1,W,rfl,hW,hG,SqT.of hA,SqT.of hB,hT,hV,λws U wA ys H1 js s1 hw0 bp hY=>?_⟩;obtain⟨e1,e2,e3⟩:=js.end hG hT hV;obtain⟨_,_,hpr⟩:=js.pairs λ_ h=>h;have xU:=js.wk hG hT
  rw[e1]at xU;have yl:=hY.1
  have wb:∀ p∈ws,-(10 ^ 70)<p.1/\p.1<10 ^ 70/\-(10 ^ 70)<p.2/\p.2<10 ^ 70:=λp hp=>by
   have:=xU.bnd hG hT p hp
   lia
  refine nm ?_;dsimp only [List.set];refine⟨_,rfl,wA,ys,rfl,.inl (SqL.of bp),_,rfl,_,rfl,_,rfl,w,a,b,n,ps,true,true,T1,W,rfl,hW.same s1,hG,SqT.of (s1 _ _ hA),SqT.of (s1 _ _ hB),λ_ _ H2 s2=>?_,λh=>absurd ⟨hT,hV⟩ h⟩;refine⟨rfl,_,rfl,?_⟩;rw[ZD];refine PY (by rw[yl,e3]) ?_;have t2:=s1.trans s2
  have GY:=s2 _ _ bp;refine⟨_,rfl,_,rfl,_,rfl,w,a,wA,n,ps,false,T1,ys,ws,rfl,hW.same t2,hG,.inl (t2 _ _ hA),SqL.of GY,hY.same s2,wb,λ_ U2 hU2 fA H3 s3 ym=>?_,λ_ h=>absurd h xU.whole,λh=>absurd hT h⟩;obtain rfl:W=U2:=(hU2.uniq xU).symm;have t3:=t2.trans s3
  refine⟨_,rfl,1,_,fA,b,rfl,rfl,by decide,ZC8 (SqT.of ym) (SqT.of (t3 _ _ hB)),_,rfl,?_⟩;rw[Yr rfl];refine Uz ?_;have bj:=s3 _ _ GY
  have hY3:=(hY.same s2).same s3;show(_:Prop)
  refine So ?_;refine⟨_,rfl,wA,rfl,⟨_,SqL.of bj⟩,HJ (K:=K) (a:=wA) (xs:=ys) (λi σ H4=>H4=H3/\∃ v4 v5:Option V,σ=[some (.ref w),some (.ref a),some (.ref b),some (.ref wA),v4,v5]) ⟨rfl,none,none,rfl⟩ (λi σ H4 _ h=>by rw[h.1];exact SqL.of bj) ?_ ?_⟩;rotate_left
  .rintro σ H4 ⟨rfl,v4,v5,rfl⟩;exact q _ t3
  rintro i v σ H4 hi ⟨rfl,v4,v5,rfl⟩;obtain⟨p,hp,tt,rfl,UR⟩:=hY3.at hi;obtain⟨p1,p2,p3,p4⟩:=hpr p (Xi hp);refine⟨tt,_,rfl,SqT.of UR,rfl,_,_,rfl,_,_,rfl,rfl,?_⟩;dsimp only [List.set];have Nr:=SqT.of (K:=K) (t3 _ _ hA)
  have Hu:=SqT.of (K:=K) (t3 _ _ hB);refine⟨_,rfl,_,rfl,a,_,rfl,.inr Nr,rfl,Zq _,_,rfl,?_⟩;rw[Zy];refine PY p1 ?_;refine⟨_,rfl,_,rfl,b,_,rfl,.inr Hu,rfl,Zq _,_,rfl,?_⟩;rw[Zy];refine SQ p2 ?_;refine⟨_,rfl,_,rfl,b,_,rfl,.inr Hu,rfl,Zq _,_,rfl,?_⟩;rw[Zy];refine PY p3 ?_;refine⟨_,rfl,_,rfl,a,_,rfl,.inr Nr,rfl,Zq _,_,rfl,?_⟩;rw[Zy];refine SQ p4 ?_;exact⟨rfl,_,_,rfl⟩
def jr(K:Ad)(C:Addr):Sp:=λvs H Q _=>∃(w a b:Addr) (n:Int) (ps:Aa) (T W:Ac),vs=[.ref w,.ref a,.ref b]/\WebAt C H w n ps/\Zz n ps/\H a=some (.tup (IL T))/\H b=some (.tup (IL W))/\Ze n ps T/\Ze n ps W/\∀ H':Hp,Same H H'->Q (.bl true) H'
theorem OW:FnScope ["web","one","other","tie","told","into","good"] ["web","one","other"] (XD sZW):=⟨rfl,rfl,rfl,by decide +kernel,rfl,by decide +kernel,by decide +kernel⟩
theorem Be (T:Txt K mg t):FnOk P w K mg base Xg 10 t.aZW t.dZW ["web","one","other"] (jr K t.A_Web):=by
 refine T.fZW.ok OW (λvs H Q E h=>?_) (λXw A outer s H vs Q E hr h=>?_)
 .obtain⟨w,a,b,n,ps,T,W,rfl,_⟩:=h;rfl
 .obtain⟨w,a,b,n,ps,T1,W,rfl,hW,hG,hA,hB,hT,hV,q⟩:=h;refine⟨_,(XO (Vb YQ rfl (ZI K (Vt rfl (sc0:=XD sZW) (N0:=["web","one","other","tie","told","into","good"]) (N':=["tie","other"]) (o:=1) (fr:=[2]) ⟨rfl,by decide +kernel,by decide +kernel,by decide +kernel,rfl,by decide +kernel⟩ (JQ K (pv 1)) (Zp (by decide)) (λ_ _ _ _=>(Zc (i:=0) (show List.Nodup (["tie","other"]:List Str) by decide +kernel) rfl (Or.inl rfl))) (λ_ _ _ _=>(Wl (Zf (ZC K) (pv 0) (pv 1) rfl))) (λ_ _ _ _=>(pv 0)))) (Zc (i:=3) OW.nd rfl (Or.inl rfl))
   (XO (Zi (i:=4) OW.nd rfl (Or.inr rfl) (Xy (kf T) (hr.mono (by decide)) rfl T.mZI T.fZI.kp T.bZI .nil Zu (XY (pv 0) (XY (pv 1) (XY (pv 2) (XY (pv 3) XX))))))
   (XO (Vb YQ rfl (ZI K (Vt rfl (sc0:=XD sZW) (N0:=["web","one","other","tie","told","into","good"]) (N':=["into","one","told"]) (o:=1) (fr:=[1,4]) ⟨rfl,by decide +kernel,by decide +kernel,by decide +kernel,rfl,by decide +kernel⟩ (JQ K (pv 2)) (Zp (by decide)) (λ_ _ _ _=>(Zc (i:=0) (show List.Nodup (["into","one","told"]:List Str) by decide +kernel) rfl (Or.inl rfl))) (λ_ _ _ _=>(Wl (PW.pt (HK (Zf (ZC K) (pv 0) (pv 1) rfl) (RT (Zf Ua (pv 0) (pv 2) (Zt _))))))) (λ_ _ _ _=>(pv 0)))) (Zc (i:=5) OW.nd rfl (Or.inl rfl))
   (XO (Zi (i:=6) OW.nd rfl (Or.inl rfl) (NM (Xy (IS T) (hr.mono (by decide)) rfl T.mZl T.fZl.kp T.bZl .nil Zu (XY (pv 0) (XY (Xy (Bg T) (hr.mono (by decide)) rfl T.mZU T.fZU.kp T.bZU .nil Zu (XY (pv 1) (XY (pv 3) (XY (pv 5) XX)))) XX))) (NN (Xy (IS T) (hr.mono (by decide)) rfl T.mZl T.fZl.kp T.bZl .nil Zu (XY (pv 0) (XY (Xy (Bg T) (hr.mono (by decide)) rfl T.mZU T.fZU.kp T.bZU .nil Zu (XY (pv 2) (XY (pv 5) (XY (pv 3) XX)))) XX))))))
   (XI (WD (Zf Wo (pv 6) (NG VD (pv 5) (pv 4) (Zt _)) (Zt _))
   (XI (Zj VF))
   Zn))))
   (XI (WD (PW.pt (Sv (Zf (ZC K) (pv 4) (pv 2) rfl) (Qq (Zf (JR K) (pv 4) (pv 1) rfl))))
   (XI (Zj VF))
   Zn)))))
   (XI (Zj VF))),?_⟩
  obtain⟨g1,g2,g3,g4⟩:=id hG;have lT:T1.length<=13:=by have:=hT.2.1;lia
  have lW:W.length<=13:=by have:=hV.2.1;lia
  refine⟨_,rfl,a,rfl,⟨_,SqT.of hA⟩,JS (K:=K) (a:=a) (xs:=IL T1) (λk zs H4=>H4=H/\zs=IL ((T1.take k).filter λy=>decide (y∉W))) ⟨rfl,rfl⟩ (Zh (by rw[XB];lia)) (λk zs H4 hk h=>by obtain⟨e,ez⟩:=h;exact⟨e ▸ SqT.of hA,by rw[ez,XB];exact Yv (YF ..) (by rw[Yj];exact KI _ _)⟩) ?_ ?_⟩
  .rintro k v zs H4 hk ⟨rfl,rfl⟩ SS Xq;obtain⟨u,rfl,hu⟩:=ZW hk;refine nm ?_;refine⟨_,rfl,_,rfl,b,_,rfl,.inr (SqT.of hB),rfl,Zq _,_,rfl,?_⟩;rw[Zy];refine WX (λh=>?_) (λh=>?_)
   .refine Xq _ _ ⟨rfl,?_⟩;rw[Zw hu,if_neg (by simpa using h),YE]
   .refine⟨_,rfl,Xq _ _ ⟨rfl,?_⟩⟩;rw[Zw hu,if_pos (Yr h),ZK]
  rintro zs H4 ⟨rfl,rfl⟩ p1 Vx;rw[XB,YA];have u1:=XZ (o:=.lst (IL (T1.filter λy=>decide (y∉W)))) Vx
  have k1:=XS (H:=H4) (a:=p1) (o:=.lst (IL (T1.filter λy=>decide (y∉W))));generalize upd H4 p1 (.lst (IL (T1.filter λy=>decide (y∉W))))=H5 at *;have wb:∀ z∈T1,-(10 ^ 70)<z/\z<10 ^ 70:=λz hz=>by have:=hT.1.all z hz;lia
  refine⟨p1,rfl,⟨_,SqL.of k1⟩,HJ (K:=K) (a:=p1) (xs:=IL (T1.filter λy=>decide (y∉W))) (λi σ H6=>Same H5 H6/\∃ v3 v4 v5 v6:Option V,σ=[some (.ref w),some (.ref a),some (.ref b),v3,v4,v5,v6]) ⟨Same.refl _,none,none,none,none,rfl⟩ (λi σ H6 _ h=>SqL.of (h.1 _ _ k1)) ?_ ?_⟩;rotate_left
  .rintro σ H6 ⟨s6,v3,v4,v5,v6,rfl⟩;exact q _ (u1.trans s6)
  rintro i v σ H6 hi ⟨s6,v3,v4,v5,v6,rfl⟩;obtain⟨z,rfl,hz⟩:=ZW hi;obtain⟨LL,Tg⟩:=Yd.mp (Xi hz);have Tg:=Yo Tg
  have t6:=u1.trans s6;refine nm ?_;dsimp only [List.set];refine⟨_,rfl,_,rfl,_,rfl,_,rfl,w,a,b,n,ps,true,true,T1,W,z,rfl,hW.same t6,hG,SqT.of (t6 _ _ hA),SqT.of (t6 _ _ hB),(wb z LL).1,(wb z LL).2,λ_ _ _ _ y e1 e2 emin H7 s7=>?_,λ_ _ h=>absurd ⟨LL,Tg⟩ h,λh=>absurd ⟨hT,hV⟩ h⟩;have t7:=t6.trans s7
  have yT:y∉T1:=((LP hG hT).mp e1).2.1;have yW:y∈W:=e2.1
  refine nm ?_;dsimp only [List.set];have hA7:=t7 _ _ hA
  have bh:=t7 _ _ hB;refine⟨_,rfl,b,rfl,⟨_,SqT.of bh⟩,JS (K:=K) (a:=b) (xs:=IL W) (λk zs H8=>H8=H7/\zs=IL ((W.take k).filter λv=>decide (v∉T1/\v<=y))) ⟨rfl,rfl⟩ (Zh (by rw[XB];lia)) (λk zs H8 hk h=>by obtain⟨e,ez⟩:=h;exact⟨e ▸ SqT.of bh,by rw[ez,XB];exact Yv (YF ..) (by rw[Yj];exact KI _ _)⟩) ?_ ?_⟩
  .rintro k v zs H8 hk ⟨rfl,rfl⟩ SS Xq;obtain⟨u,rfl,hu⟩:=ZW hk;refine nm ?_;refine⟨_,rfl,_,rfl,a,_,rfl,.inr (SqT.of hA7),rfl,Zq _,_,rfl,?_⟩;rw[Zy];refine WX (λh=>?_) (λh=>?_)
   .refine Xq _ _ ⟨rfl,?_⟩;rw[Zw hu,if_neg (λe=>(Yo e).1 h),YE]
   .refine⟨_,rfl,_,rfl,_,_,rfl,rfl,_,rfl,?_⟩;refine Xc (λh2=>?_) (λh2=>?_)
    .refine⟨_,rfl,Xq _ _ ⟨rfl,?_⟩⟩;rw[Zw hu,if_pos (Yr ⟨h,h2⟩),ZK]
    .refine Xq _ _ ⟨rfl,?_⟩;rw[Zw hu,if_neg (λe=>h2 (Yo e).2),YE]
  rintro zs H8 ⟨rfl,rfl⟩ p2 Wg;rw[XB,YA];have u2:=XZ (o:=.lst (IL (W.filter λv=>decide (v∉T1/\v<=y)))) Wg
  have k2:=XS (H:=H8) (a:=p2) (o:=.lst (IL (W.filter λv=>decide (v∉T1/\v<=y))));generalize upd H8 p2 (.lst (IL (W.filter λv=>decide (v∉T1/\v<=y))))=H9 at *;have t9:=t7.trans u2
  refine⟨p2,rfl,⟨_,SqL.of k2⟩,HJ (K:=K) (a:=p2) (xs:=IL (W.filter λv=>decide (v∉T1/\v<=y))) (λi σ QH=>Same H9 QH/\∃ v5 v6:Option V,σ=[some (.ref w),some (.ref a),some (.ref b),some (.int z),some (.int y),v5,v6]) ⟨Same.refl _,_,_,rfl⟩ (λi σ QH _ h=>SqL.of (h.1 _ _ k2)) ?_ ?_⟩;rotate_left
  .rintro σ QH ⟨Ud,v5,v6,rfl⟩;have Oe:=t9.trans Ud
   refine So ?_;refine⟨_,rfl,_,rfl,b,_,rfl,.inr (SqT.of (Oe _ _ hB)),rfl,Zq _,_,rfl,?_⟩;rw[Zy];refine PY yW ?_;refine⟨_,rfl,_,rfl,a,_,rfl,.inr (SqT.of (Oe _ _ hA)),rfl,Zq _,_,rfl,?_⟩;rw[Zy];refine SQ yT ?_;exact⟨s6.trans (s7.trans (u2.trans Ud)),_,_,_,_,rfl⟩
  rintro j v σ QH hj ⟨Ud,v5,v6,rfl⟩;obtain⟨x,rfl,hx⟩:=ZW hj;obtain⟨bg,mR⟩:=Yd.mp (Xi hx);obtain⟨hxT,LK⟩:=Yo mR;have Oe:=t9.trans Ud
  refine nm ?_;dsimp only [List.set];obtain⟨x0,x1⟩:=hV.1.all x bg;refine⟨_,rfl,_,rfl,_,rfl,_,rfl,a,T1,z,x,rfl,Oe _ _ hA,by lia,λp4 ms Pg Te k4 m1 m2=>?_⟩;have bc:=Oe.trans Te
  refine⟨w,p4,n,ps,false,ms,rfl,hW.same bc,hG,SqL.of k4,λb1 bX WR Jx=>⟨_,rfl,?_⟩⟩;have GP:=bc.trans WR
  by_cases hb:b1=true;rotate_left
  .rw[if_neg hb];have ne:x≠y:=λe=>hb (Jx.mpr (LO hG hT (e ▸ e1) m1 m2))
   refine nm ?_;dsimp only [List.set];refine⟨_,rfl,_,rfl,_,rfl,rfl,rfl,_,rfl,?_⟩;rw[FQ,ZD];refine PY (YT ne).symm ?_;exact⟨Ud.trans (Te.trans WR),_,_,rfl⟩
  rw[if_pos hb];refine⟨_,rfl,_,rfl,_,rfl,_,rfl,b,W,x,z,rfl,GP _ _ hB,by lia,λp5 ko bW Lj k5 m3 m4=>?_⟩;have t13:=GP.trans Lj
  refine⟨w,p5,n,ps,false,ko,rfl,hW.same t13,hG,SqL.of k5,λb2 bT Ll QO=>?_⟩;have key:b2=true↔x=y:=by
   refine⟨λe=>?_,λe=>QO.mpr (LO hG hV (e ▸ e2) m3 m4)⟩;have f1:=Ei hG hT m1 (Jx.mp hb) LL hxT x0 x1
   have f2:=Ei hG hV m3 (QO.mp e) bg Tg (hT.1.all z LL).1 (hT.1.all z LL).2
   have:=emin x f1 f2
   lia
  refine nm ?_;dsimp only [List.set];refine⟨_,rfl,_,rfl,_,rfl,rfl,rfl,_,rfl,?_⟩;rw[FQ,ZD];refine PY (by rwa[Sa,YM]) ?_;exact⟨Ud.trans (Te.trans (WR.trans (Lj.trans Ll))),_,_,rfl⟩
def Bc(K:Ad)(Pt:Addr):Sp:=λvs H Q _=>∃(a:Addr) (ns:Ac),vs=[.ref a]/\SqL K H a (IL ns)/\ns.length<=63/\WN H Pt/\∀ H',Q (.bl true) H'
theorem Ve:FnScope ["script","places","ties","web","lengths","many","total","numbers","one","other","gap"] ["script"] (XD sZX):=⟨rfl,rfl,rfl,by decide +kernel,rfl,by decide +kernel,by decide +kernel⟩
theorem jq {Pt:Addr} (T:Txt K mg t) (hB:Lw K mg base t.dZu Pt):FnOk P w K mg base Xg 48 t.aZX t.dZX ["script"] (Bc K Pt):=by
 refine T.fZX.ok Ve (λvs H Q E h=>?_) (λXw A outer s H vs Q E hr h=>?_)
 .obtain⟨a,ns,rfl,_⟩:=h;rfl
 .obtain⟨a,ns,rfl,hS,Iu,hTb,k⟩:=h;refine⟨_,(XO (Gf (Xy (jD T) (hr.mono (by decide)) rfl T.mZR T.fZR.kp T.bZR .nil Zu (XY (pv 0) (XY XN (XY XN XX)))) (PV (n:=2) K rfl (Zv (Zc (i:=1) Ve.nd rfl (Or.inl rfl)) (Zv (Zc (i:=2) Ve.nd rfl (Or.inl rfl)) QY))))
   (XO (Gf (Xy (jW T) (hr.mono (by decide)) rfl T.mZM T.fZM.kp T.bZM .nil Zu (XY (Xy (jw T) (hr.mono (by decide)) rfl T.mZT T.fZT.kp T.bZT .nil Zu (XY (pv 1) (XY (pv 2) (XY (Xy (jz T) (hr.mono (by decide)) rfl T.mZS T.fZS.kp T.bZS .nil Zu (XY (pv 0) (XY (Zg (Zl K) (by rfl) T.n_len Boot.«len» (XY (pv 2) XX)) XX))) XX)))) XX)) (PV (n:=2) K rfl (Zv (Zc (i:=3) Ve.nd rfl (Or.inr rfl)) (Zv (Zc (i:=4) Ve.nd rfl (Or.inl rfl)) QY))))
   (XO (Zi (i:=5) Ve.nd rfl (Or.inl rfl) (Xy (IV T) (hr.mono (by decide)) rfl T.mZj T.fZj.kp T.bZj .nil Zu (XY (pv 3) XX)))
   (XO (WD (Zf VD (pv 5) XN (Zt _))
   (XI (Zj VF))
   Zn)
   (XO (Zi (i:=6) Ve.nd rfl (Or.inl rfl) (Zr ZO (Zg (tW K rfl) (by rfl) T.n_sum Boot.«sum» (XY (pv 0) XX)) (Zr Mc XN XN)))
   (XO (Zi (i:=7) Ve.nd rfl (Or.inl rfl) (UA (XY (Zr ZO (pv 6) (pv 5)) (XY (Zr ZO (Zr QX (pv 6) XN) (pv 5)) XX))))
   (XO (Gf (Vt rfl (sc0:=XD sZX) (N0:=["script","places","ties","web","lengths","many","total","numbers","one","other","gap"]) (N':=["number","web"]) (o:=1) (fr:=[3]) ⟨rfl,by decide +kernel,by decide +kernel,by decide +kernel,rfl,by decide +kernel⟩ (ZI K (pv 7)) (Zp (by decide)) (λ_ _ _ _=>(Zc (i:=0) (show List.Nodup (["number","web"]:List Str) by decide +kernel) rfl (Or.inl rfl))) (λ_ _ _ _=>ZU) (λ_ _ _ _=>(Xy (kH T hB) (hr.mono (by decide)) rfl T.mZE T.fZE.kp T.bZE .nil Zu (XY (pv 1) (XY (pv 0) XX))))) (CA (n:=2) K rfl (Zv (Zc (i:=8) Ve.nd rfl (Or.inl rfl)) (Zv (Zc (i:=9) Ve.nd rfl (Or.inl rfl)) QY))))
   (XO (WD (PW.pt (Sv (OM (Qr (Xy (Bf T) (hr.mono (by decide)) rfl T.mZV T.fZV.kp T.bZV .nil Zu (XY (pv 3) (XY (pv 8) (XY (pv 9) XX)))))) (Qq (OM (Qr (Xy (Bf T) (hr.mono (by decide)) rfl T.mZV T.fZV.kp T.bZV .nil Zu (XY (pv 3) (XY (pv 9) (XY (pv 8) XX)))))))))
   (XI (Zj VF))
   Zn)
   (XO (Zi (i:=10) Ve.nd rfl (Or.inl rfl) (Zg ZK8 (by rfl) T.n_abs Boot.«abs» (XY (Zr VS (ZF (Zd K) (pv 7) XN (λ_ _=>rfl)) (ZF (Zd K) (pv 7) XN (λ_ _=>rfl))) XX)))
   (XO (WD (Zf UC (Xy (Br T) (hr.mono (by decide)) rfl T.mZF T.fZF.kp T.bZF .nil Zu (XY (pv 3) (XY (pv 8) (XY (pv 9) XX)))) (Zg (Qk rfl) (by rfl) T.n_min Boot.«min» (XY (pv 10) (XY (Zr VS (pv 5) (pv 10)) XX))) (Zt _))
   (XI (Zj VF))
   Zn)
   (XI (Zj (NM (Xy (Be T) (hr.mono (by decide)) rfl T.mZW T.fZW.kp T.bZW .nil Zu (XY (pv 3) (XY (pv 8) (XY (pv 9) XX)))) (NN (Xy (Be T) (hr.mono (by decide)) rfl T.mZW T.fZW.kp T.bZW .nil Zu (XY (pv 3) (XY (pv 9) (XY (pv 8) XX)))))))))))))))))),?_⟩
  refine⟨_,rfl,a,ns,10,18,rfl,hS,Iu,by decide,by decide,by decide,by decide,λr l n xs ps H1 s1 VH QS Tx hP hG hnm wM=>?_⟩;refine⟨r,_,rfl,SqT.of VH,rfl,_,_,rfl,_,_,rfl,rfl,?_⟩;have QT:=hP.1
  obtain⟨g1,g2,g3,g4⟩:=id hG;refine⟨_,rfl,_,rfl,_,rfl,_,rfl,l,xs,rfl,.inl (SqL.of Tx),a,ns,xs.length,rfl,s1.seq hS,Iu,by lia,λb ls H2 s2 _ hb Vd bb=>?_⟩;have hl:ls.length=ps.length:=by lia
  refine⟨n,l,b,xs,ps,ls,rfl,SqL.of (s2 _ _ Tx),hP.same s2,SqL.of hb,hG,hl,bb,λH3 s3=>?_⟩;have Lj:=s2.trans s3
  refine⟨n,ps,ls,rfl,hG,hl,bb,λtA x LA H4 s4 ha0 Vr hW hLA=>?_⟩;refine⟨tA,_,rfl,SqT.of Vr,rfl,_,_,rfl,_,_,rfl,rfl,?_⟩;dsimp only [List.set];have sH4:=s1.trans (Lj.trans s4)
  refine⟨_,rfl,x,n,ps,rfl,hW,hG,λc H5 hc s5=>?_⟩;refine nm ?_;dsimp only [List.set];refine⟨_,rfl,rfl,_,rfl,?_⟩;rw[ZD];have xX:=sH4.trans s5
  refine Xc (λ_=>k _) (λc0=>?_);show(_:Prop)
  refine So ?_;obtain⟨F,hF⟩:∃ F,Ze n ps F:=by
   obtain⟨L,_,hm,hl⟩:=hc;cases L with
   | nil=>exact absurd (Xx Int.ofNat hl.symm) c0
   | cons F L=>exact⟨F,(hm F).mp Yc⟩
  obtain⟨R,hR,bH,c8⟩:=oP hG ⟨F,hF⟩;obtain⟨_,_,_,_,_,_,_,_,xZ⟩:=id hR;obtain rfl:=hc.uniq xZ;have trees:∀ V∈R,Ze n ps V:=λV hV=>(c8 V).mp hV
  have c20:=eS hG xZ;have cp:(0:Int)<R.length:=by lia
  have two:2<=sizeLine:=by decide
  refine⟨_,rfl,a,ns,rfl,xX.seq hS,_,_,rfl,rfl,⟨by decide,by decide⟩,_,_,rfl,rfl,(by show(0:Int)<10 ^ Int.toNat 60;decide),?_⟩;refine nm ?_;dsimp only [List.set];generalize ns.sum % 10 ^ Int.toNat 60=UI;refine⟨_,rfl,_,rfl,_,_,rfl,rfl,cp,_,rfl,_,_,rfl,rfl,⟨by decide,by decide⟩,_,rfl,_,_,rfl,rfl,cp,two,λnA mE=>?_⟩;have u6:=XZ (o:=.lst (IL [UI % R.length,UI / 1009 % R.length])) mE
  have k6:=XS (H:=H5) (a:=nA) (o:=.lst (IL [UI % R.length,UI / 1009 % R.length]));refine nm ?_;dsimp only [List.set];change UG _ _ _ _ (upd H5 nA (.lst (IL [UI % R.length,UI / 1009 % R.length])));generalize upd H5 nA (.lst (IL [UI % R.length,UI / 1009 % R.length]))=H6 at *;have i0:=YY UI (by lia:(R.length:Int)≠0)
  have i1:=YZ UI cp;have j0:=YY (UI / 1009) (by lia:(R.length:Int)≠0)
  have j1:=YZ (UI / 1009) cp;generalize UI % R.length=I at *;generalize UI / 1009 % R.length=J at *;have OV:=hTb.same (xX.trans u6)
  have ba:=(hW.same s5).same u6;refine⟨_,rfl,nA,rfl,⟨_,SqL.of k6⟩,Sr (K:=K) (a:=nA) (xs:=IL [I,J]) (λi ys H7=>SameX Pt H6 H7/\WN H7 Pt/\ys.length=i/\∀(j:Nat) (v:V),ys[j]?=some v->∃ num U,[I,J][j]?=some num/\R[num.toNat]?=some U/\VA H7 v U) ⟨SameX.same (Same.refl _),OV,rfl,λj v h=>by cases h⟩ (by show 2<sizeLine;decide) (λi ys H7 _ h=>⟨SqL.of (h.1 _ _ (OV.ne k6 (by simp)) k6),by rw[h.2.2.1];exact XJ _⟩) ?_ ?_⟩
  .rintro i v ys H7 hi ⟨MI,Ir,rfl,hy⟩ SS Xq;obtain⟨u,rfl,hu⟩:=ZW hi;have ub:0<=u/\u<R.length:=by
    rcases Yh.mp (Xi hu) with e | e
    .exact e ▸ ⟨i0,i1⟩
    .rw[XC.mp e];exact⟨j0,j1⟩
   refine nm ?_;refine⟨_,rfl,_,rfl,x,n,ps,u,R,rfl,ba.samex OV MI,hG,Ir,ub.1,ub.2,hR,λr U H8 hU x9 OZ hr8=>?_⟩;refine Xq _ _ ⟨MI.trans x9,OZ,by simp,λj v h=>?_⟩;by_cases c:j<ys.length
   .rw[Yu c]at h;obtain⟨num,U',e1,e2,q,rfl,e3⟩:=hy j v h;exact⟨num,U',e1,e2,q,rfl,x9 _ _ (Ir.ne e3 (by simp)) e3⟩
   .have hl:=(Xm.mp h).1;rw[Xv,Yp]at hl;obtain rfl:j=ys.length:=by lia
    rw[Ys (XJ _),QE]at h;cases h;exact⟨u,U,hu,hU,r,rfl,hr8⟩
  rintro ys H7 ⟨MI,Ir,MQ,hy⟩ lA BC
  match ys,MQ,hy with
  | [v1,v2],_,hy =>
  obtain⟨_,U,e1,hU,oA,rfl,Bb⟩:=hy 0 v1 rfl;obtain⟨_,W,e2,hV,oB,rfl,Ba⟩:=hy 1 _ rfl;cases e1;cases e2;have u8:=XZ (o:=.lst [.ref oA,.ref oB]) BC
  refine⟨lA,_,rfl,SqL.of XS,rfl,_,_,rfl,_,_,rfl,rfl,?_⟩;dsimp only [List.set];have jo:=(ba.samex OV MI).same u8
  have k8:=u8 _ _ (MI _ _ (OV.ne k6 (by simp)) k6);have Iq:=u8 _ _ Bb
  have Ip:=u8 _ _ Ba;generalize upd H7 lA (.lst [.ref oA,.ref oB])=H8 at *;have tU:=trees U (Xi hU)
  have tV:=trees W (Xi hV);refine⟨_,rfl,_,rfl,_,rfl,x,oA,oB,n,ps,U,W,rfl,jo,hG,Iq,Ip,tU,tV,λH9 s9=>⟨_,rfl,?_⟩⟩;refine Uz ?_;refine⟨_,rfl,_,rfl,_,rfl,x,oB,oA,n,ps,W,U,rfl,jo.same s9,hG,s9 _ _ Ip,s9 _ _ Iq,tV,tU,λQH Ud=>⟨_,rfl,?_⟩⟩;refine Uz ?_;show(_:Prop)
  refine So ?_;have Oe:=s9.trans Ud
  have yg:=SqL.of (K:=K) (Oe _ _ k8);have Bb:=Oe _ _ Iq
  have Ba:=Oe _ _ Ip;have Io:=jo.same Oe
  refine⟨_,rfl,nA,_,0,.int I,rfl,rfl,yg,rfl,_,rfl,nA,_,1,.int J,rfl,rfl,yg,rfl,_,_,rfl,rfl,_,rfl,?_⟩;refine nm ?_;dsimp only [List.set];refine⟨_,rfl,_,rfl,_,rfl,x,oA,oB,n,ps,true,true,U,W,rfl,Io,hG,SqT.of Bb,SqT.of Ba,λ_ _ Pg Te=>?_,λh=>absurd ⟨tU,tV⟩ h⟩;refine⟨_,rfl,_,rfl,_,rfl,_,_,rfl,rfl,_,_,rfl,_,_,rfl,rfl,_,rfl,?_⟩;have far:¬ (if (R.length:Int) - (if I - J<0 then -(I - J) else I - J)<(if I - J<0 then -(I - J) else I - J) then (R.length:Int) - (if I - J<0 then -(I - J) else I - J) else (if I - J<0 then -(I - J) else I - J))<(dst U W:Int):=by
   by_cases c:I - J<0
   .obtain⟨d1,_,d2,_⟩:=de hG hR trees (j:=(J - I).toNat) hU (by rwa[show I.toNat+(J - I).toNat=J.toNat by lia]);rw[if_pos c];split <;> lia
   .obtain⟨_,d1,_,d2⟩:=de hG hR trees (j:=(I - J).toNat) hV (by rwa[show J.toNat+(I - J).toNat=I.toNat by lia]);rw[if_neg c];split <;> lia
  refine SQ far ?_;show(_:Prop)
  refine So ?_;refine⟨_,rfl,_,rfl,_,rfl,x,oA,oB,n,ps,U,W,rfl,Io.same Te,hG,Te _ _ Bb,Te _ _ Ba,tU,tV,λbX WR=>⟨_,rfl,?_⟩⟩;have GP:=Te.trans WR
  rw[if_pos rfl];exact⟨_,rfl,_,rfl,_,rfl,x,oB,oA,n,ps,W,U,rfl,Io.same GP,hG,GP _ _ Ba,GP _ _ Bb,tV,tU,λbW Lj=>k _⟩
end
end My
namespace My
open PySem L2
theorem Rg {K:Ad} {f:Addr} {fd:FuncData} (F:Fun K "law" "law" sZX f fd) (s:Shared) (u:Value):BindsTo s fd ⟨[u],[]⟩ [("script",u)]:=by obtain⟨oc,od,kV,doc,pm,an,Xw,ct,Um,rfl,lk,Tt⟩:=F.ex;exact .of_eq rfl
end My
open PySem PySem.W PyProof.Rows
set_option maxRecDepth 100000 in
set_option maxHeartbeats 0 in
theorem PySem.Challenge.cw_spanrow_k96_whole_walks_along_the_row_holds : PySem.Challenge.rw_spanrow_k96_whole_walks_along_the_row.Holds := by
 w_on;o_law;k_head;(case hw=>w_witness2)
 k_fill
 refine L2.Pm (l:=PySem.Challenge.rw_spanrow_k96_whole_walks_along_the_row) (n:=63) (k:=48) (x:="script") (CX:=L2.Xg) (sp:=λK=>My.Bc K 349) (c:=351) (Pt:=349) rfl (by decide) rfl ⟨rfl,by decide,by decide⟩ (λw h Y=>⟨PySem.W.km_in_of Y,PySem.W.km_tabs_of Y 349 (XC.mpr rfl)⟩) ?C ?P ?F (λ_ H a ns hl hO hS=>⟨a,ns,rfl,hS,hl,⟨#[],hO.1,trivial,.inl rfl⟩,λ_=>rfl⟩) (λ_ _ _ _ z=>z)
 case C=>intro w;kernel_rfl
 case P=>intro w;kernel_rfl
 case F =>
  intro w mg fa h KX G Fj;obtain⟨aZ0,dZ0,mZ0,fZ0⟩:My.FX (L2.XF KX) mg "refuse_not_square" "refuse_not_square" My.sZ0:=by dsimp only [L2.XF];refine' My.XR KX G ?a ?l ?c ?k;case a | l | c | k=>k_is
  obtain⟨aZ1,dZ1,mZ1,fZ1⟩:My.FX (L2.XF KX) mg "row_taken_off" "row_taken_off" My.sZ1:=by dsimp only [L2.XF];refine' My.XR KX G ?a ?l ?c ?k;case a | l | c | k=>k_is
  obtain⟨aZ2,dZ2,mZ2,fZ2⟩:My.FX (L2.XF KX) mg "first_with_some" "first_with_some" My.sZ2:=by dsimp only [L2.XF];refine' My.XR KX G ?a ?l ?c ?k;case a | l | c | k=>k_is
  obtain⟨aZ3,dZ3,mZ3,fZ3⟩:My.FX (L2.XF KX) mg "determinant" "determinant" My.sZ3:=by dsimp only [L2.XF];refine' My.XR KX G ?a ?l ?c ?k;case a | l | c | k=>k_is
  obtain⟨aZ4,dZ4,mZ4,fZ4⟩:My.FX (L2.XF KX) mg "row_without" "row_without" My.sZ4:=by dsimp only [L2.XF];refine' My.XR KX G ?a ?l ?c ?k;case a | l | c | k=>k_is
  obtain⟨aZ5,dZ5,mZ5,fZ5⟩:My.FX (L2.XF KX) mg "table_without" "table_without" My.sZ5:=by dsimp only [L2.XF];refine' My.XR KX G ?a ?l ?c ?k;case a | l | c | k=>k_is
  obtain⟨aZ6,dZ6,mZ6,fZ6⟩:My.FX (L2.XF KX) mg "is_tie" "is_tie" My.sZ6:=by dsimp only [L2.XF];refine' My.XR KX G ?a ?l ?c ?k;case a | l | c | k=>k_is
  obtain⟨aZ7,dZ7,mZ7,fZ7⟩:My.FX (L2.XF KX) mg "refuse_bad_web" "refuse_bad_web" My.sZ7:=by dsimp only [L2.XF];refine' My.XR KX G ?a ?l ?c ?k;case a | l | c | k=>k_is
  obtain⟨aZ9,dZ9,mZ9,fZ9⟩:My.FX (L2.XF KX) mg "ties_beside" "ties_beside" My.sZ9:=by dsimp only [L2.XF];refine' My.XR KX G ?a ?l ?c ?k;case a | l | c | k=>k_is
  obtain⟨aZa,dZa,mZa,fZa⟩:My.FX (L2.XF KX) mg "ties_without" "ties_without" My.sZa:=by dsimp only [L2.XF];refine' My.XR KX G ?a ?l ?c ?k;case a | l | c | k=>k_is
  obtain⟨aZb,dZb,mZb,fZb⟩:My.FX (L2.XF KX) mg "is_set" "is_set" My.sZb:=by dsimp only [L2.XF];refine' My.XR KX G ?a ?l ?c ?k;case a | l | c | k=>k_is
  obtain⟨aZc,dZc,mZc,fZc⟩:My.FX (L2.XF KX) mg "made_set" "made_set" My.sZc:=by dsimp only [L2.XF];refine' My.XR KX G ?a ?l ?c ?k;case a | l | c | k=>k_is
  obtain⟨aZd,dZd,mZd,fZd⟩:My.FX (L2.XF KX) mg "merged_marks" "merged_marks" My.sZd:=by dsimp only [L2.XF];refine' My.XR KX G ?a ?l ?c ?k;case a | l | c | k=>k_is
  obtain⟨aZe,dZe,mZe,fZe⟩:My.FX (L2.XF KX) mg "piece_marks" "piece_marks" My.sZe:=by dsimp only [L2.XF];refine' My.XR KX G ?a ?l ?c ?k;case a | l | c | k=>k_is
  obtain⟨aZf,dZf,mZf,fZf⟩:My.FX (L2.XF KX) mg "pieces_of" "pieces_of" My.sZf:=by dsimp only [L2.XF];refine' My.XR KX G ?a ?l ?c ?k;case a | l | c | k=>k_is
  obtain⟨aZg,dZg,mZg,fZg⟩:My.FX (L2.XF KX) mg "is_joined" "is_joined" My.sZg:=by dsimp only [L2.XF];refine' My.XR KX G ?a ?l ?c ?k;case a | l | c | k=>k_is
  obtain⟨aZh,dZh,mZh,fZh⟩:My.FX (L2.XF KX) mg "weighted_table" "weighted_table" My.sZh:=by dsimp only [L2.XF];refine' My.XR KX G ?a ?l ?c ?k;case a | l | c | k=>k_is
  obtain⟨aZi,dZi,mZi,fZi⟩:My.FX (L2.XF KX) mg "pull_table" "pull_table" My.sZi:=by dsimp only [L2.XF];refine' My.XR KX G ?a ?l ?c ?k;case a | l | c | k=>k_is
  obtain⟨aZj,dZj,mZj,fZj⟩:My.FX (L2.XF KX) mg "tree_count" "tree_count" My.sZj:=by dsimp only [L2.XF];refine' My.XR KX G ?a ?l ?c ?k;case a | l | c | k=>k_is
  obtain⟨aZk,dZk,mZk,fZk⟩:My.FX (L2.XF KX) mg "part_count" "part_count" My.sZk:=by dsimp only [L2.XF];refine' My.XR KX G ?a ?l ?c ?k;case a | l | c | k=>k_is
  obtain⟨aZl,dZl,mZl,fZl⟩:My.FX (L2.XF KX) mg "is_tree" "is_tree" My.sZl:=by dsimp only [L2.XF];refine' My.XR KX G ?a ?l ?c ?k;case a | l | c | k=>k_is
  obtain⟨aZm,dZm,mZm,fZm⟩:My.FX (L2.XF KX) mg "refuse_no_tree" "refuse_no_tree" My.sZm:=by dsimp only [L2.XF];refine' My.XR KX G ?a ?l ?c ?k;case a | l | c | k=>k_is
  obtain⟨aZn,dZn,mZn,fZn⟩:My.FX (L2.XF KX) mg "grown_tree" "grown_tree" My.sZn:=by dsimp only [L2.XF];refine' My.XR KX G ?a ?l ?c ?k;case a | l | c | k=>k_is
  obtain⟨aZo,dZo,mZo,fZo⟩:My.FX (L2.XF KX) mg "tree_cut" "tree_cut" My.sZo:=by dsimp only [L2.XF];refine' My.XR KX G ?a ?l ?c ?k;case a | l | c | k=>k_is
  obtain⟨aZp,dZp,mZp,fZp⟩:My.FX (L2.XF KX) mg "ring_of" "ring_of" My.sZp:=by dsimp only [L2.XF];refine' My.XR KX G ?a ?l ?c ?k;case a | l | c | k=>k_is
  obtain⟨aZq,dZq,mZq,fZq⟩:My.FX (L2.XF KX) mg "exchanged" "exchanged" My.sZq:=by dsimp only [L2.XF];refine' My.XR KX G ?a ?l ?c ?k;case a | l | c | k=>k_is
  obtain⟨aZr,dZr,mZr,fZr⟩:My.FX (L2.XF KX) mg "least_in" "least_in" My.sZr:=by dsimp only [L2.XF];refine' My.XR KX G ?a ?l ?c ?k;case a | l | c | k=>k_is
  obtain⟨aZs,dZs,mZs,fZs⟩:My.FX (L2.XF KX) mg "end_pieces" "end_pieces" My.sZs:=by dsimp only [L2.XF];refine' My.XR KX G ?a ?l ?c ?k;case a | l | c | k=>k_is
  obtain⟨aZt,dZt,mZt,fZt⟩:My.FX (L2.XF KX) mg "open_ties" "open_ties" My.sZt:=by dsimp only [L2.XF];refine' My.XR KX G ?a ?l ?c ?k;case a | l | c | k=>k_is
  obtain⟨aZv,dZv,mZv,fZv⟩:My.FX (L2.XF KX) mg "whole_part" "whole_part" My.sZv:=by dsimp only [L2.XF];refine' My.XR KX G ?a ?l ?c ?k;case a | l | c | k=>k_is
  obtain⟨aZw,dZw,mZw,fZw⟩:My.FX (L2.XF KX) mg "half_without" "half_without" My.sZw:=by dsimp only [L2.XF];refine' My.XR KX G ?a ?l ?c ?k;case a | l | c | k=>k_is
  obtain⟨aZx,dZx,mZx,fZx⟩:My.FX (L2.XF KX) mg "half_with" "half_with" My.sZx:=by dsimp only [L2.XF];refine' My.XR KX G ?a ?l ?c ?k;case a | l | c | k=>k_is
  obtain⟨aZy,dZy,mZy,fZy⟩:My.FX (L2.XF KX) mg "part_size" "part_size" My.sZy:=by dsimp only [L2.XF];refine' My.XR KX G ?a ?l ?c ?k;case a | l | c | k=>k_is
  obtain⟨aZz,dZz,mZz,fZz⟩:My.FX (L2.XF KX) mg "trees_with_tie" "trees_with_tie" My.sZz:=by dsimp only [L2.XF];refine' My.XR KX G ?a ?l ?c ?k;case a | l | c | k=>k_is
  obtain⟨aZA,dZA,mZA,fZA⟩:My.FX (L2.XF KX) mg "undivided_row" "undivided_row" My.sZA:=by dsimp only [L2.XF];refine' My.XR KX G ?a ?l ?c ?k;case a | l | c | k=>k_is
  obtain⟨aZB,dZB,mZB,fZB⟩:My.FX (L2.XF KX) mg "trees_between" "trees_between" My.sZB:=by dsimp only [L2.XF];refine' My.XR KX G ?a ?l ?c ?k;case a | l | c | k=>k_is
  obtain⟨aZC,dZC,mZC,fZC⟩:My.FX (L2.XF KX) mg "refuse_below_nought" "refuse_below_nought" My.sZC:=by dsimp only [L2.XF];refine' My.XR KX G ?a ?l ?c ?k;case a | l | c | k=>k_is
  obtain⟨aZD,dZD,mZD,fZD⟩:My.FX (L2.XF KX) mg "row_from" "row_from" My.sZD:=by dsimp only [L2.XF];refine' My.XR KX G ?a ?l ?c ?k;case a | l | c | k=>k_is
  obtain⟨aZE,dZE,mZE,fZE⟩:My.FX (L2.XF KX) mg "row_at" "row_at" My.sZE:=by dsimp only [L2.XF];refine' My.XR KX G ?a ?l ?c ?k;case a | l | c | k=>k_is
  obtain⟨aZF,dZF,mZF,fZF⟩:My.FX (L2.XF KX) mg "differ" "differ" My.sZF:=by dsimp only [L2.XF];refine' My.XR KX G ?a ?l ?c ?k;case a | l | c | k=>k_is
  obtain⟨aZG,dZG,mZG,fZG⟩:My.FX (L2.XF KX) mg "walk_between" "walk_between" My.sZG:=by dsimp only [L2.XF];refine' My.XR KX G ?a ?l ?c ?k;case a | l | c | k=>k_is
  obtain⟨aZH,dZH,mZH,fZH⟩:My.FX (L2.XF KX) mg "walked" "walked" My.sZH:=by dsimp only [L2.XF];refine' My.XR KX G ?a ?l ?c ?k;case a | l | c | k=>k_is
  obtain⟨aZI,dZI,mZI,fZI⟩:My.FX (L2.XF KX) mg "partner_of" "partner_of" My.sZI:=by dsimp only [L2.XF];refine' My.XR KX G ?a ?l ?c ?k;case a | l | c | k=>k_is
  obtain⟨aZJ,dZJ,mZJ,fZJ⟩:My.FX (L2.XF KX) mg "is_number" "is_number" My.sZJ:=by dsimp only [L2.XF];refine' My.XR KX G ?a ?l ?c ?k;case a | l | c | k=>k_is
  obtain⟨aZK,dZK,mZK,fZK⟩:My.FX (L2.XF KX) mg "read_number" "read_number" My.sZK:=by dsimp only [L2.XF];refine' My.XR KX G ?a ?l ?c ?k;case a | l | c | k=>k_is
  obtain⟨aZL,dZL,mZL,fZL⟩:My.FX (L2.XF KX) mg "read_line" "read_line" My.sZL:=by dsimp only [L2.XF];refine' My.XR KX G ?a ?l ?c ?k;case a | l | c | k=>k_is
  obtain⟨aZM,dZM,mZM,fZM⟩:My.FX (L2.XF KX) mg "read_web" "read_web" My.sZM:=by dsimp only [L2.XF];refine' My.XR KX G ?a ?l ?c ?k;case a | l | c | k=>k_is
  obtain⟨aZN,dZN,mZN,fZN⟩:My.FX (L2.XF KX) mg "_law_cell" "_law_cell" My.sZN:=by dsimp only [L2.XF];refine' My.XR KX G ?a ?l ?c ?k;case a | l | c | k=>k_is
  obtain⟨aZO,dZO,mZO,fZO⟩:My.FX (L2.XF KX) mg "_law_mixed" "_law_mixed" My.sZO:=by dsimp only [L2.XF];refine' My.XR KX G ?a ?l ?c ?k;case a | l | c | k=>k_is
  obtain⟨aZP,dZP,mZP,fZP⟩:My.FX (L2.XF KX) mg "_law_draws" "_law_draws" My.sZP:=by dsimp only [L2.XF];refine' My.XR KX G ?a ?l ?c ?k;case a | l | c | k=>k_is
  obtain⟨aZQ,dZQ,mZQ,fZQ⟩:My.FX (L2.XF KX) mg "_law_ties" "_law_ties" My.sZQ:=by dsimp only [L2.XF];refine' My.XR KX G ?a ?l ?c ?k;case a | l | c | k=>k_is
  obtain⟨aZR,dZR,mZR,fZR⟩:My.FX (L2.XF KX) mg "_law_web" "_law_web" My.sZR:=by dsimp only [L2.XF];refine' My.XR KX G ?a ?l ?c ?k;case a | l | c | k=>k_is
  obtain⟨aZS,dZS,mZS,fZS⟩:My.FX (L2.XF KX) mg "_law_lengths" "_law_lengths" My.sZS:=by dsimp only [L2.XF];refine' My.XR KX G ?a ?l ?c ?k;case a | l | c | k=>k_is
  obtain⟨aZT,dZT,mZT,fZT⟩:My.FX (L2.XF KX) mg "_law_text" "_law_text" My.sZT:=by dsimp only [L2.XF];refine' My.XR KX G ?a ?l ?c ?k;case a | l | c | k=>k_is
  obtain⟨aZU,dZU,mZU,fZU⟩:My.FX (L2.XF KX) mg "_law_put" "_law_put" My.sZU:=by dsimp only [L2.XF];refine' My.XR KX G ?a ?l ?c ?k;case a | l | c | k=>k_is
  obtain⟨aZV,dZV,mZV,fZV⟩:My.FX (L2.XF KX) mg "_law_walk_good" "_law_walk_good" My.sZV:=by dsimp only [L2.XF];refine' My.XR KX G ?a ?l ?c ?k;case a | l | c | k=>k_is
  obtain⟨aZW,dZW,mZW,fZW⟩:My.FX (L2.XF KX) mg "_law_partners_good" "_law_partners_good" My.sZW:=by dsimp only [L2.XF];refine' My.XR KX G ?a ?l ?c ?k;case a | l | c | k=>k_is
  obtain⟨aZX,dZX,oo,fZX⟩:My.FX (L2.XF KX) mg "law" "law" My.sZX:=by dsimp only [L2.XF];refine' My.XR KX G ?a ?l ?c ?k;case a | l | c | k=>k_is
  have AZ:My.gQ (L2.XF KX) mg "Web" "Web.__init__" My.sZ8 ["places","ties"]:=by
   dsimp only [L2.XF];refine' My.EU KX G ?aC ?a ?i ?l ?c ?k ?pg ?hd ?po ?sa ?mk ?kc ?na
   (case aC=>k_is);(case a=>k_is);(case i=>k_is);(case l=>k_is);(case c=>k_is);(case k=>k_is)
   (case pg=>k_is);(case hd=>k_is);(case po=>k_is);(case sa=>k_is);(case mk=>k_is);(case kc=>k_is)
   (case na=>(intro f hf;simp only [Yh,xt,or_false]at hf;rcases hf with rfl | rfl <;> k_is))
  have Im:My.CO (L2.XF KX) mg "Part" "Part.__init__" My.sZu ["web","kept","shut","lead","least","incoming","further"] 349:=by
   dsimp only [L2.XF];refine' My.Ji KX G ?aC ?a ?i ?l ?c ?k ?pg ?hd ?po ?sa ?mk ?kc ?na ?z
   (case aC=>k_is);(case a=>k_is);(case i=>k_is);(case l=>k_is);(case c=>k_is);(case k=>k_is)
   (case pg=>k_is);(case hd=>k_is);(case po=>k_is);(case sa=>k_is);(case mk=>k_is);(case kc=>k_is)
   (case na=>(intro f hf;simp only [Yh,xt,or_false]at hf;rcases hf with rfl | rfl | rfl | rfl | rfl | rfl | rfl <;> k_is))
   (case z=>kernel_rfl)
  have h_MOST_PLACES:∃ tk,mg "MOST_PLACES"=some (.int 14 tk):=by
   refine' My.Vm KX G ?a ?b
   (case a=>k_is);(case b=>exact⟨_,rfl⟩)
  have h_MOST_TIES:∃ tk,mg "MOST_TIES"=some (.int 30 tk):=by
   refine' My.Vm KX G ?a ?b
   (case a=>k_is);(case b=>exact⟨_,rfl⟩)
  have h_FIGURES:∃ tk,mg "FIGURES"=some (.str "0123456789" tk):=by
   refine' My.Rz KX G ?a ?b
   (case a=>k_is);(case b=>exact⟨_,rfl⟩)
  have h_MOST_FIGURES:∃ tk,mg "MOST_FIGURES"=some (.int 60 tk):=by
   refine' My.Vm KX G ?a ?b
   (case a=>k_is);(case b=>exact⟨_,rfl⟩)
  have AY:mg "abs"=none:=by refine' YU KX G ?a;case a=>k_is
  have AX:mg "any"=none:=by refine' YU KX G ?a;case a=>k_is
  have h_enumerate:mg "enumerate"=none:=by refine' YU KX G ?a;case a=>k_is
  have AW:mg "int"=none:=by refine' YU KX G ?a;case a=>k_is
  have AV:mg "len"=none:=by refine' YU KX G ?a;case a=>k_is
  have Il:mg "list"=none:=by refine' YU KX G ?a;case a=>k_is
  have AU:mg "max"=none:=by refine' YU KX G ?a;case a=>k_is
  have AS:mg "min"=none:=by refine' YU KX G ?a;case a=>k_is
  have MB:mg "range"=none:=by refine' YU KX G ?a;case a=>k_is
  have h_reversed:mg "reversed"=none:=by refine' YU KX G ?a;case a=>k_is
  have AR:mg "set"=none:=by refine' YU KX G ?a;case a=>k_is
  have OU:mg "sorted"=none:=by refine' YU KX G ?a;case a=>k_is
  have AQ:mg "str"=none:=by refine' YU KX G ?a;case a=>k_is
  have AO:mg "sum"=none:=by refine' YU KX G ?a;case a=>k_is
  have MA:mg "tuple"=none:=by refine' YU KX G ?a;case a=>k_is
  have AN:mg "zip"=none:=by refine' YU KX G ?a;case a=>k_is
  obtain⟨A_Web,aZ8,dZ8,c_Web,fZ8,cl_Web,k_Web,OT⟩:=AZ;obtain⟨A_Part,aZu,dZu,AM,c_Part,fZu,cl_Part,k_Part,WA,AL,AK⟩:=Im;have T:My.Txt (L2.XF KX) mg ⟨aZ0,dZ0,aZ1,dZ1,aZ2,dZ2,aZ3,dZ3,aZ4,dZ4,aZ5,dZ5,aZ6,dZ6,aZ7,dZ7,aZ8,dZ8,aZ9,dZ9,aZa,dZa,aZb,dZb,aZc,dZc,aZd,dZd,aZe,dZe,aZf,dZf,aZg,dZg,aZh,dZh,aZi,dZi,aZj,dZj,aZk,dZk,aZl,dZl,aZm,dZm,aZn,dZn,aZo,dZo,aZp,dZp,aZq,dZq,aZr,dZr,aZs,dZs,aZt,dZt,aZu,dZu,aZv,dZv,aZw,dZw,aZx,dZx,aZy,dZy,aZz,dZz,aZA,dZA,aZB,dZB,aZC,dZC,aZD,dZD,aZE,dZE,aZF,dZF,aZG,dZG,aZH,dZH,aZI,dZI,aZJ,dZJ,aZK,dZK,aZL,dZL,aZM,dZM,aZN,dZN,aZO,dZO,aZP,dZP,aZQ,dZQ,aZR,dZR,aZS,dZS,aZT,dZT,aZU,dZU,aZV,dZV,aZW,dZW,aZX,dZX,A_Web,A_Part⟩:=⟨fZ0,fZ0.binds (λ_ _ _ _ _ _=>My.SJ λ_=>rfl),mZ0,fZ1,fZ1.binds (λ_ _ _ _ _ _=>My.US λ_ _ _=>rfl),mZ1,fZ2,fZ2.binds (λ_ _ _ _ _ _=>My.SJ λ_=>rfl),mZ2,fZ3,fZ3.binds (λ_ _ _ _ _ _=>My.SJ λ_=>rfl),mZ3,fZ4,fZ4.binds (λ_ _ _ _ _ _=>My.UZ λ_ _=>rfl),mZ4,fZ5,fZ5.binds (λ_ _ _ _ _ _=>My.UZ λ_ _=>rfl),mZ5,fZ6,fZ6.binds (λ_ _ _ _ _ _=>My.UZ λ_ _=>rfl),mZ6,fZ7,fZ7.binds (λ_ _ _ _ _ _=>My.UZ λ_ _=>rfl),mZ7,fZ8,fZ8.binds (λ_ _ _ _ _ _=>My.US λ_ _ _=>rfl),fZ9,fZ9.binds (λ_ _ _ _ _ _=>My.UZ λ_ _=>rfl),mZ9,fZa,fZa.binds (λ_ _ _ _ _ _=>My.UZ λ_ _=>rfl),mZa,fZb,fZb.binds (λ_ _ _ _ _ _=>My.UZ λ_ _=>rfl),mZb,fZc,fZc.binds (λ_ _ _ _ _ _=>My.UZ λ_ _=>rfl),mZc,fZd,fZd.binds (λ_ _ _ _ _ _=>My.US λ_ _ _=>rfl),mZd,fZe,fZe.binds (λ_ _ _ _ _ _=>My.UZ λ_ _=>rfl),mZe,fZf,fZf.binds (λ_ _ _ _ _ _=>My.UZ λ_ _=>rfl),mZf,fZg,fZg.binds (λ_ _ _ _ _ _=>My.UZ λ_ _=>rfl),mZg,fZh,fZh.binds (λ_ _ _ _ _ _=>My.UZ λ_ _=>rfl),mZh,fZi,fZi.binds (λ_ _ _ _ _ _=>My.SJ λ_=>rfl),mZi,fZj,fZj.binds (λ_ _ _ _ _ _=>My.SJ λ_=>rfl),mZj,fZk,fZk.binds (λ_ _ _ _ _ _=>My.US λ_ _ _=>rfl),mZk,fZl,fZl.binds (λ_ _ _ _ _ _=>My.UZ λ_ _=>rfl),mZl,fZm,fZm.binds (λ_ _ _ _ _ _=>My.UZ λ_ _=>rfl),mZm,fZn,fZn.binds (λ_ _ _ _ _ _=>My.US λ_ _ _=>rfl),mZn,fZo,fZo.binds (λ_ _ _ _ _ _=>My.US λ_ _ _=>rfl),mZo,fZp,fZp.binds (λ_ _ _ _ _ _=>My.US λ_ _ _=>rfl),mZp,fZq,fZq.binds (λ_ _ _ _ _ _=>My.yL λ_ _ _ _=>rfl),mZq,fZr,fZr.binds (λ_ _ _ _ _ _=>My.US λ_ _ _=>rfl),mZr,fZs,fZs.binds (λ_ _ _ _ _ _=>My.US λ_ _ _=>rfl),mZs,fZt,fZt.binds (λ_ _ _ _ _ _=>My.US λ_ _ _=>rfl),mZt,fZu,fZu.binds (λ_ _ _ _ _ _=>My.un5 λ_ _ _ _ _=>rfl),fZv,fZv.binds (λ_ _ _ _ _ _=>My.SJ λ_=>rfl),mZv,fZw,fZw.binds (λ_ _ _ _ _ _=>My.SJ λ_=>rfl),mZw,fZx,fZx.binds (λ_ _ _ _ _ _=>My.SJ λ_=>rfl),mZx,fZy,fZy.binds (λ_ _ _ _ _ _=>My.SJ λ_=>rfl),mZy,fZz,fZz.binds (λ_ _ _ _ _ _=>My.UZ λ_ _=>rfl),mZz,fZA,fZA.binds (λ_ _ _ _ _ _=>My.SJ λ_=>rfl),mZA,fZB,fZB.binds (λ_ _ _ _ _ _=>My.yL λ_ _ _ _=>rfl),mZB,fZC,fZC.binds (λ_ _ _ _ _ _=>My.SJ λ_=>rfl),mZC,fZD,fZD.binds (λ_ _ _ _ _ _=>My.US λ_ _ _=>rfl),mZD,fZE,fZE.binds (λ_ _ _ _ _ _=>My.UZ λ_ _=>rfl),mZE,fZF,fZF.binds (λ_ _ _ _ _ _=>My.US λ_ _ _=>rfl),mZF,fZG,fZG.binds (λ_ _ _ _ _ _=>My.US λ_ _ _=>rfl),mZG,fZH,fZH.binds (λ_ _ _ _ _ _=>My.US λ_ _ _=>rfl),mZH,fZI,fZI.binds (λ_ _ _ _ _ _=>My.yL λ_ _ _ _=>rfl),mZI,fZJ,fZJ.binds (λ_ _ _ _ _ _=>My.SJ λ_=>rfl),mZJ,fZK,fZK.binds (λ_ _ _ _ _ _=>My.SJ λ_=>rfl),mZK,fZL,fZL.binds (λ_ _ _ _ _ _=>My.US λ_ _ _=>rfl),mZL,fZM,fZM.binds (λ_ _ _ _ _ _=>My.SJ λ_=>rfl),mZM,fZN,fZN.binds (λ_ _ _ _ _ _=>My.UZ λ_ _=>rfl),mZN,fZO,fZO.binds (λ_ _ _ _ _ _=>My.UZ λ_ _=>rfl),mZO,fZP,fZP.binds (λ_ _ _ _ _ _=>My.yL λ_ _ _ _=>rfl),mZP,fZQ,fZQ.binds (λ_ _ _ _ _ _=>My.US λ_ _ _=>rfl),mZQ,fZR,fZR.binds (λ_ _ _ _ _ _=>My.US λ_ _ _=>rfl),mZR,fZS,fZS.binds (λ_ _ _ _ _ _=>My.UZ λ_ _=>rfl),mZS,fZT,fZT.binds (λ_ _ _ _ _ _=>My.US λ_ _ _=>rfl),mZT,fZU,fZU.binds (λ_ _ _ _ _ _=>My.US λ_ _ _=>rfl),mZU,fZV,fZV.binds (λ_ _ _ _ _ _=>My.US λ_ _ _=>rfl),mZV,fZW,fZW.binds (λ_ _ _ _ _ _=>My.US λ_ _ _=>rfl),mZW,fZX,fZX.binds (λ_ _ _ _ _ _=>My.SJ λ_=>rfl),oo,c_Web,cl_Web,k_Web,OT _ (by simp),OT _ (by simp),c_Part,cl_Part,k_Part,WA _ (by simp),WA _ (by simp),WA _ (by simp),WA _ (by simp),WA _ (by simp),WA _ (by simp),WA _ (by simp),h_MOST_PLACES,h_MOST_TIES,h_FIGURES,h_MOST_FIGURES,AY,AX,h_enumerate,AW,AV,Il,AU,AS,MB,h_reversed,AR,OU,AQ,AO,MA,AN⟩
  have e0:=Fj.symm.trans oo;cases e0;exact⟨dZX,λs u=>My.Rg fZX s u,λbase _ _ HB=>My.jq T ⟨AM,AL,AK,HB,by decide⟩⟩
#print axioms PySem.Challenge.cw_spanrow_k96_whole_walks_along_the_row_holds
