import PyProof.Rows.All
import Wide.All
import OpenK.AllK
import Wide.FinOn
import Lean
import PyProof.EqAt
import PyProof.EqKinds
import PyProof.TupleCall
import PySem.Challenge.RW_spanrow_k68_lengths_refused
set_option Elab.async false
set_option linter.all false
set_option maxRecDepth 100000
namespace PySem.W.Fast
def tw2853031742271375363:=0
def tw1641395313550626324:=0
def tw17234420132587174677:=0
def tw16896877873241735226:=0
def tw995542170884961945:=0
def tw10008367488681714956:=0
def tw15022577303507854088:=0
def tw11303746702393968553:=0
def tw18429168543872595633:=0
def tw6342454824752660818:=0
def tw4439835875515242345:=0
def tw695238555581290901:=0
def tw5515969686530764064:=0
def tw15505277990896425153:=0
def tw16404094878094490417:=0
def tw2872518023580340977:=0
def tw12747740522789202639:=0
def tw12245408587555372618:=0
def tw6998493897311495958:=0
def tw10999109369489094138:=0
def tw1095580861598905423:=0
def tw3556919270527612058:=0
def tw17231465473590651334:=0
def tw4334608870651733486:=0
def tw17780009331868834145:=0
def tw12478778834366092543:=0
def tw16931100117125521259:=0
def tw11650254804053527670:=0
def tw261682814575172824:=0
def tw16776502530792321044:=0
def tw13442267892612099163:=0
def tw3644678154713270106:=0
def tw399730497384369898:=0
def tw5906123921264995146:=0
def tw6054021583143613476:=0
def tw10965325315053270824:=0
def tw5793551006776756682:=0
def tw2307236537804112780:=0
def tw2411565615795107724:=0
def tw4183496494700653218:=0
def tw10017615853504744340:=0
def tw12797244114389750058:=0
def tw11565581208664039464:=0
def tw14989537893762227194:=0
def tw9944937894789313235:=0
def tw1861765116036669012:=0
def tw887267733276339184:=0
def tw6579566442970835878:=0
def tw9573220469900362573:=0
def tw11998257780230212816:=0
def tw17741623416528465296:=0
def tw6494673649890321659:=0
def tw17130667373130576892:=0
def tw16214351047386395119:=0
def tw5323022895897606040:=0
def tw17301707609545624725:=0
def tw10937044779472222084:=0
def tw2135607384018567225:=0
def tw6338835967377348550:=0
def tw18122196563219501459:=0
def tw7000671213842267009:=0
def tw10358517387248813422:=0
def tw9853922788167098101:=0
def tw6215142987466940486:=0
def tw5050800933934823753:=0
def tw15979536745670369790:=0
def tw9540825626199943468:=0
def tw4479899477520576789:=0
def tw17606698862046150976:=0
def tw8993582903426131863:=0
def tw3030474762782706692:=0
def tw13512863948808969687:=0
def tw11565775616893582150:=0
def tw17365119449452646422:=0
def tw7339126121997042941:=0
def tw11422874161467357345:=0
def tw42029111495067974:=0
def tw16240986970306979991:=0
def tw16317063781203289035:=0
def tw8357547402045581383:=0
def tw3105902398375342613:=0
def tw18195213798001719721:=0
def tw3541943752394768251:=0
def tw10873897119313568985:=0
def tw12047978779097742033:=0
def tw5961432814459721391:=0
def tw10439489895219995189:=0
def tw12581401244635372175:=0
def tw14266969239937304446:=0
def tw8906322544538682874:=0
def tw2681760480403060271:=0
def tw3186292537166588687:=0
def tw17461283481314601032:=0
def tw16966655984157899006:=0
def tw16598443637494333823:=0
def tw9371119673979606313:=0
def tw14509725522343698289:=0
def tw15143136927719165840:=0
def tw17867384620739333005:=0
def tw7648011593858627503:=0
def tw1032003030623862689:=0
def tw18069836138777891672:=0
def tw2868602224335307081:=0
def tw8319155059402757878:=0
def tw8713585143366233877:=0
def tw10897716639058085856:=0
def tw17586468643699587005:=0
def tw6251096263811412357:=0
def tw7193465673947348791:=0
def tw16598623822638560862:=0
def tw8989826910647656370:=0
def tw17548061830098645472:=0
def tw17876148707441372404:=0
def tw3581783642219066999:=0
def tw8040321047531438869:=0
def tw13198327312321780010:=0
def tw3365309365640082684:=0
def tw10282530512236368250:=0
def tw5154663721315149951:=0
def tw8836181997079989203:=0
def tw86269816362332956:=0
def tw9438821552199885666:=0
def tw570987956192640335:=0
def tw10774552304642021452:=0
def tw16210516292659642638:=0
def tw14982782040478632322:=0
def tw2221013787688005033:=0
def tw12425928512704853417:=0
def tw13422428138747436164:=0
def tw7555254434241457417:=0
def tw10937455561580348560:=0
def tw12000265520548733528:=0
def tw15564297132926144984:=0
def tw1243940073408125715:=0
def tw3678657449308763275:=0
def tw4068591464835157013:=0
def tw6672035665235970716:=0
def tw15039083420901846870:=0
def tw5662106441301273231:=0
def tw9273200689773481612:=0
def tw12414112670492087355:=0
def tw16183700834553989729:=0
def tw11981864940606404773:=0
def tw17190840711271944336:=0
def tw15461399338876477924:=0
def tw13330701198076878737:=0
def tw1352604785893945387:=0
def tw1181371925477627968:=0
def tw2038596127987520686:=0
def tw11381927989481755434:=0
def tw5409590059261014401:=0
def tw2488249144137120176:=0
def tw12263814039093770236:=0
def tw9585218115749278882:=0
def tw11250785025356415428:=0
def tw8526802546589539320:=0
def tw11003521473573303837:=0
def tw7642261323578261252:=0
def tw6132639242798976591:=0
def tw5508604095168317416:=0
def tw5294702931257979279:=0
def tw4597482934115758894:=0
def tw3471909266866043048:=0
def tw8732884776430113545:=0
def tw3742909042699506001:=0
def tw16306692379194017857:=0
def tw6349445100099692323:=0
def tw11569707016429565071:=0
def tw17859746832612422922:=0
def tw12186716843041182361:=0
def tw10598415601448050557:=0
def tw11710545055344939277:=0
def tw9486487194292440485:=0
def tw7414013257973074953:=0
def tw3288147114226935268:=0
def tw2985765272964138664:=0
def tw17299015531264065785:=0
def tw9089160759938661337:=0
def tw18160592903615190089:=0
def tw5114528015420314175:=0
def tw13711326632249180472:=0
def tw15087628744324955719:=0
def tw2319990661893018197:=0
def tw15566278344383761056:=0
def tw18413304611693419273:=0
def tw11916915402018374439:=0
def tw17933876772353699704:=0
def tw8165763273121588862:=0
def tw4677452969999098548:=0
def tw1503605671028520291:=0
def tw4224920299656199498:=0
def tw5420879707903159311:=0
def tw15190388140600775316:=0
def tw18246023197325132290:=0
def tw11144971388450970083:=0
def tw13054237141962675854:=0
def tw9738117405699588329:=0
def tw1162284433494375346:=0
def tw12992331640686677742:=0
def tw8905290888671928199:=0
def tw236237542105712247:=0
def tw3055940372395001690:=0
def tw11439739538957657545:=0
def tw5298728436359083812:=0
def tw7938218611215288627:=0
def tw5553290594922179606:=0
def tw14714550747444204789:=0
def tw880897416170550094:=0
def tw6108713055395624642:=0
def tw5253018522396025862:=0
def tw4540529572637825524:=0
def tw7056514554286373917:=0
def tw7030979989974497485:=0
def tw12026059828094886953:=0
def tw6507668810486582479:=0
def tw1743473539860909363:=0
def tw3969261445574057769:=0
def tw12478784883742570800:=0
def tw1020771793974827685:=0
def tw1451598126465211563:=0
def tw10827333073584788213:=0
def tw6527715035514357986:=0
def tw12880536183477686937:=0
def tw7976356802093457103:=0
def tw8456180198167162477:=0
def tw4397599516779346231:=0
def tw13613681666450237098:=0
def tw17263640151249338326:=0
def tw12508864377674757433:=0
def tw16528052653997382335:=0
def tw1501162849480044084:=0
def tw10182659281346701609:=0
def tw4815721554318007652:=0
def tw2306808404524088501:=0
def tw14196628050670436513:=0
def tw707715935839916309:=0
def tw6009881090961937964:=0
def tw8465959137494648471:=0
def tw12217521312492345579:=0
def tw12968053949367125227:=0
def tw9393618003931707250:=0
def tw4448280773367251487:=0
def tw17609090175890843739:=0
def tw16356413541819396958:=0
def tw12105029022443930763:=0
def tw2349843421875813569:=0
def tw1716358854779919496:=0
def tw13717887935540260452:=0
def tw17299611734873070094:=0
def tw3205118801972533453:=0
def tw2808476901171459502:=0
def tw15687698654742549158:=0
def tw8672580478760932971:=0
def tw11298240901876069236:=0
def tw8346641788647657007:=0
def tw6350504218203858124:=0
def tw11129062213637854021:=0
def tw10525771700753002855:=0
def tw2149769025418875454:=0
def tw16492984320645372557:=0
def tw13005762657861900697:=0
def tw5610320582717984865:=0
def tw11521236230923389764:=0
def tw15360786547242927665:=0
def tw2623516945715232889:=0
def tw17585280675778374889:=0
def tw10014140242762285749:=0
def tw16733365837576799499:=0
def tw13425971974240862531:=0
def tw3468063752475169023:=0
def tw2482811200501106175:=0
def tw427185572212606467:=0
def tw6447454118185121620:=0
def tw10611192647008356494:=0
def tw4673675497211837306:=0
def tw4203634829071046584:=0
def tw2867928614333932827:=0
def tw2393801066744423543:=0
def tw17719365125423035873:=0
def tw14768731294550418066:=0
def tw12993357045746876777:=0
def tw12331612590935446950:=0
def tw10327166434049000572:=0
def tw5348150539067865927:=0
def tw8028267367684429716:=0
def tw7238894625532536200:=0
def tw18198284409044876675:=0
def tw17124111325516634709:=0
def tw2413279764941974923:=0
end PySem.W.Fast
abbrev Aa:=List (Int × Int)
abbrev Ab:=List (List Int)
abbrev Ac:=List Int
abbrev Ad:=PySem.W.Frag
abbrev Ae:=PySem.Value->PySem.Shared->Prop
abbrev Af:=PySem.Str->Option PySem.Value
abbrev Ag:=List PySem.Value
def Yy0:=@PySem.wpAny_bind
def Yy1:=@List.mem_singleton
def Yy2:=@List.getElem?_eq_getElem
def Yy3:=@List.getElem?_eq_some_iff
def Yy4:=@PySem.Heap.get?_push_of_some
def Yy5:=@List.length_append
def Yy6:=@Nat.le_refl
def Yy7:=@List.getD_eq_getElem?_getD
def Yy8:=@List.mem_of_getElem?
def Yy9:=@List.size_toArray
def Ya:=@List.mem_append
def Yb:=@List.mem_append_right
def Yc:=@List.length_map
def Yd:=@Option.some.inj
def Ye:=@List.mem_cons
def Yf:=@PySem.wpAny_pure
def Yg:=@List.mem_append_left
def Yh:=@PySem.Heap.lt_size
def Yi:=@List.mem_cons_of_mem
def Yj:=@PySem.Heap.get?_push_size
def Yk:=@List.mem_cons_self
def Yl:=@Nat.zero_le
def Ym:=@Nat.lt_of_lt_of_le
def Yn:=@List.mem_filter
def Yo:=@Nat.ne_of_lt
def Yp:=@List.getElem?_map
def Yq:=@Bool.false_ne_true
def Yr:=@Classical.byContradiction
def Ys:=@Array.getD_eq_getD_getElem?
def Yt:=@decide_eq_true
def Yu:=@List.getElem?_append_left
def Yv:=@List.getElem?_append_right
def Yw:=@Int.toNat_natCast
def Yx:=@List.mem_map
def Yy:=@of_decide_eq_true
def Yz:=@List.length_cons
def YA:=@Array.length_toList
def YB:=@List.length_singleton
def YC:=@List.map_append
def YD:=@Nat.le_trans
def YE:=@Array.getElem?_eq_getElem
def YF:=@List.length_replicate
def YG:=@List.mem_range
def YH:=@decide_eq_true_iff
def YI:=@List.length_take
def YJ:=@List.getElem?_eq_none
def YK:=@List.length_range
def YL:=@PySem.F.plainAttrs_list
def YM:=@List.map_congr_left
def YN:=@PySem.Heap.get?_update_other
def YO:=@List.append_nil
def QP:=@List.take_length
def YQ:=@Array.getElem?_toList
def YR:=@Ne.symm
def YS:=@List.take_succ
def YT:=@decide_eq_false
def YU:=@List.map_cons
def YV:=@List.length_eq_zero_iff
def YW:=@PySem.W.mg_none_of
def YX:=@PySem.PassesOwn.never
def YY:=@List.pairwise_append
def YZ:=@congrArg
def Yy00:=@PySem.Heap.get?_update_self
def Yy01:=@PySem.codeAny_builtin
def Yy02:=@Nat.not_lt_zero
def Yy03:=@List.pairwise_cons
def Yy04:=@List.filter_append
def Yy05:=@List.pairwise_singleton
def Yy06:=@PySem.Obj.data_mapFields
def Yy07:=@List.pairwise_iff_getElem
def Yy08:=@List.take_of_length_le
def Yy09:=@List.append_assoc
def Y0a:=@PySem.F.type_list_append
def Y0b:=@PySem.F.slot_list_append
def Y0c:=@PyProof.Rows.callWith_type1
def Y0d:=@List.nodup_append
def Y0e:=@PySem.Heap.SameBut.update
def Y0f:=@List.getElem?_of_mem
def Y0g:=@PySem.wpAny_callSpecial?_slot
def Y0h:=@PySem.wpAny_newObj_type
def Y0i:=@Nat.lt_succ_self
def Y0j:=@Nat.lt_succ_of_lt
def Y0k:=@Int.mul_assoc
def Y0l:=@PySem.wpAny_seqItems
def Y0m:=@PySem.wpAny_call_entry
def Y0n:=@PySem.Heap.size_push
def Y0o:=@Int.emod_lt_of_pos
def Y0p:=@List.nodup_cons
def Y0q:=@List.all_eq_true
def Y0r:=@Bool.and_eq_true
def Y0s:=@PySem.Around.under_plainId
def Y0t:=@List.getElem?_range
def Y0u:=@Nat.ne_of_gt
def Y0v:=@List.getElem?_set
def Y0w:=@Int.mul_zero
def Y0x:=@PySem.wpAny_mono
def Y0y:=@List.length_set
def Y0z:=@Int.emod_nonneg
def Y0A:=@Int.one_mul
def Y0B:=@List.filter_cons
def Y0C:=@Int.add_zero
def Y0D:=@PySem.wpAny_holding
def Y0E:=@PySem.wpAny_Call_Name_kw
def Y0F:=@List.ext_getElem?
def Y0G:=@Int.le_refl
def Y0H:=@PySem.mem_of_lookup
def Y0I:=@Nat.lt_irrefl
def Y0J:=@List.sum_cons
def Y0K:=@List.replicate_succ
def Y0L:=@List.range_succ
def Y0M:=@Bool.eq_iff_iff
def Y0N:=@PySem.wpAny_truthy_bool
def Y0O:=@List.getElem?_zipWith
def Y0P:=@Nat.le_succ
def Y0Q:=@List.lookup_cons
def Y0R:=@List.getElem_mem
def Y0S:=@PySem.W.mg_of
def Y0T:=@List.mem_of_mem_take
def Y0U:=@List.length_eraseIdx
def Y0V:=@Int.mul_comm
def Y0W:=@PySem.sizeLine_eq
def Y0X:=@beq_iff_eq
def Y0Y:=@List.drop_eq_nil_of_le
def Y0Z:=@PySem.wpAny_loadPart'
def Yy10:=@PySem.wpAny_field
def Yy11:=@PySem.plainId_quiet
def Yy12:=@List.length_nil
def Yy13:=@List.filter_nil
def Yy14:=@PySem.F.plain_min_loop
def Yy15:=@Array.perm_iff_toList_perm
def Yy16:=@PySem.wpAny_setField_rec
def Yy17:=@PySem.wpAny_setField
def Yy18:=@PySem.SeqAt.EqAt.int_int
def Yy19:=@Nat.succ.inj
def Y1a:=@Nat.sub_self
def Y1b:=@List.mem_of_getLast?
def Y1c:=@PySem.Obj.isFreed_of_fields
def Y1d:=@PySem.wpAny_passesOwn
def Y1e:=@beq_eq_false_iff_ne
def Y1f:=@List.length_zipWith
def Y1g:=@List.length_drop
def Y1h:=@List.filterMap_cons
def Y1i:=@List.eq_of_mem_replicate
def Y1j:=@PySem.F.slot_tuple_iterator_next
def Y1k:=@PySem.wpAny_setState_of
def Y1l:=@PySem.codeAny_mono
def Y1m:=@PySem.wpAny_of_eq
def Y1n:=@List.getElem?_replicate
def Y1o:=@List.filter_cons_of_pos
def Y1p:=@List.filter_cons_of_neg
def Y1q:=@Nat.zero_add
def Y1r:=@Int.mul_one
def Y1s:=@PySem.wpAny_setEntries_of
def Y1t:=@PySem.wpAny_askSetting
def Y1u:=@Option.map_eq_some_iff
def Y1v:=@List.pairwise_lt_range
def Y1w:=@List.getElem?_set_self
def Y1x:=@Array.getElem?_eq_none
def Y1y:=@List.take_sublist
def Y1z:=@List.foldl_append
def Y1A:=@List.flatten_cons
def Y1B:=@List.flatMap_cons
def Y1C:=@List.length_filter_le
def Y1D:=@PySem.wpAny_pyIter_tuple
def Y1E:=@Nat.mul_le_mul
def Y1F:=@PySem.F.called_set
def Y1G:=@PySem.Code.quiet_builtin
def Y1H:=@PySem.wpAny_attempt
def Y1I:=@Nat.le_of_not_lt
def Y1J:=@Nat.le_of_lt
def Y1K:=@List.not_mem_nil
def Y1L:=@List.getElem?_set_ne
def Y1M:=@List.cons_append
def Y1N:=@Int.zero_add
def Y1O:=@Int.pow_zero
def Y1P:=@PySem.PassesOwn.leaving
def Y1Q:=@PySem.builtinLookup_eq_fast
def Y1R:=@List.filter_eq_self
def Y1S:=@List.nil_append
def Y1T:=@PySem.wpAny_letGo
def Y1U:=@PySem.wpAny_pyIter_zip
def Y1V:=@List.mem_filterMap
def Y1W:=@Int.mul_add
def Y1X:=@PyProof.Rows.listUpdate_at
def Y1Y:=@PySem.F.type_list_extend
def Y1Z:=@PySem.F.slot_list_extend
def Yy20:=@PySem.F.args_tuple_add_2
def Yy21:=@Option.isSome_iff_exists
def Yy22:=@Int.le_trans
def Yy23:=@PySem.wpAny_newList
def Yy24:=@List.pairwise_map
def Yy25:=@Int.mul_left_comm
def Yy26:=@PySem.wpAny_execs_nil
def Yy27:=@PySem.F.entry_tuple_add
def Yy28:=@PySem.Calls.Name_function_global
def Yy29:=@beq_self_eq_true
def Y2a:=@PySem.SeqAt.EqAt.of_refs
def Y2b:=@PySem.F.slot_tuple_add
def Y2c:=@Nat.le_add_right
def Y2d:=@List.length_pos_of_mem
def Y2e:=@List.getElem?_eraseIdx
def Y2f:=@List.any_cons
def Y2g:=@PySem.wpAny_pyIter_list
def Y2h:=@PySem.Obj.cls_mapFields
def Y2i:=@List.foldl_cons
def Y2j:=@List.find?_cons
def Y2k:=@PySem.W.hideAll_none
def Y2l:=@List.mem_iff_getElem
def Y2m:=@List.map_map
def Y2n:=@Int.zero_mul
def Y2o:=@Int.pow_succ
def Y2p:=@PySem.wpAny_rule
def Y2q:=@PySem.wpAny_isInstance
def Y2r:=@Nat.mul_le_mul_left
def Y2s:=@List.getElem_of_mem
def Y2t:=@List.filter_sublist
def Y2u:=@PySem.W.callWith_K
def Y2v:=@Nat.lt_of_le_of_lt
def Y2w:=@Nat.add_sub_cancel
def Y2x:=@List.map_singleton
def Y2y:=@List.getElem?_take
def Y2z:=@Bool.false_eq_true
def Y2A:=@PySem.wpAny_updateSeq
def Y2B:=@PySem.typeLookup_type
def Y2C:=@PySem.SeqAt.EqAt.same
def Y2D:=@List.eraseIdx_eq_take_drop_succ
def Y2E:=@PySem.F.slot_zip_next
def Y2F:=@PySem.wpAny_updateSeq_pair
def Y2G:=@decide_eq_true_eq
def Y2H:=@PySem.codeAny_call_builtin
def Y2I:=@PyProof.Rows.callWith_builtin1
def Y2J:=@List.mem_eraseIdx_iff_getElem?
def Y2K:=@Array.toList_push
def Y2L:=@List.take_append_of_le_length
def Y2M:=@PyProof.Rows.F.plain_set_update_loop
def Y2N:=@PySem.wpAny_tryCatch
def Y2O:=@PySem.wpAny_runValue
def Y2P:=@PySem.wpAny_fieldsOf
def Y2Q:=@PySem.call_meets
def Y2R:=@PySem.F.slot_dict_setdefault
def Y2S:=@Nat.mul_comm
def Y2T:=@List.map_nil
def Y2U:=@List.dropLast_concat_getLast
def Y2V:=@List.any_eq_true
def Y2W:=@Int.sub_zero
def Y2X:=@Int.min_eq_right
def Y2Y:=@Int.le_of_lt
def Y2Z:=@beq_false_of_ne
def Yy30:=@PySem.F.excBase_ValueError
def Yy31:=@Option.map_some
def Yy32:=@Nat.le_antisymm
def Yy33:=@List.of_mem_zip
def Yy34:=@List.length_eraseIdx_of_lt
def Yy35:=@List.forIn_cons
def Yy36:=@Int.min_eq_left
def Yy37:=@PySem.wpAny_onRaise
def Yy38:=@if_true
def Yy39:=@List.getElem?_zip_eq_some
def Y3a:=@List.getElem?_eq_none_iff
def Y3b:=@List.drop_eq_getElem_cons
def Y3c:=@Int.neg_mul
def Y3d:=@Int.eq_of_mul_eq_mul_left
def Y3e:=@Int.add_mul
def Y3f:=@PyProof.Rows.get?_update_seq
def Y3g:=@PySem.F.slot_dict_values
def Y3h:=@List.mem_of_mem_eraseIdx
def Y3i:=@List.length_erase_of_mem
def Y3j:=@Int.natAbs_mul
def Y3k:=@PyProof.Rows.entry_proto_collect'
def Y3l:=@PySem.F.plainAttrs_dict
def Y3m:=@PySem.F.attr_ValueError
def Y3n:=@PySem.F.args_tuple_lt_2
def Y3o:=@PySem.wpAny_typeOf
def Y3p:=@PySem.wpAny_load
def Y3q:=@PySem.wpAny_call
def Y3r:=@PySem.noFill_tuple_add
def Y3s:=@PySem.concat_meets
def Y3t:=@PySem.W.funFrames_hide
def Y3u:=@PySem.W.cellsFrom_some
def Y3v:=@PySem.F.entry_tuple_lt
def Y3w:=@List.filter_eq_nil_iff
def Y3x:=@PySem.F.entry_min_loop
def Y3y:=@PySem.F.args_tuple_iterator_next_1
def Y3z:=@PySem.F.slot_tuple_lt
def Y3A:=@List.getElem?_toArray
def Y3B:=@List.Pairwise.sublist
def Y3C:=@PySem.F.entry_tuple_iterator_next
def Y3D:=@Bool.beq_eq_decide_eq
/-! THE HAND LAYER,for ints,bools,texts,own classes,LISTS and tuples (index,slices,in,append,pop ..),calls,loops. Paste it whole ahead of your own text;what your proof does not reach may be deleted. -/
namespace L2
open PySem PySem.Spec PyProof.Rows
abbrev Key:=Sum Int Str
def Zb10:Key->Value->Bool
 | .inl k,v=>Value.isInt k v
 | .inr x,v=>Value.isStrOf x v
def keyH(w:World):Key->Int
 | .inl k=>hashInt k
 | .inr x=>hashStr w x
theorem ZB:∀ {k:Key} {v:Value},Zb10 k v=true->(∃ i t,k=Sum.inl i/\v=Value.int i t)\/(∃ x t,k=Sum.inr x/\v=Value.str x t)
 | .inl i,v,h=>by obtain⟨t,e⟩:=Value.isInt_shape (k:=i) (v:=v) h;exact .inl ⟨i,t,rfl,e⟩
 | .inr x,v,h=>by obtain⟨t,e⟩:=Value.isStrOf_shape (x:=x) (v:=v) h;exact .inr ⟨x,t,rfl,e⟩
theorem Zn7(i:Int)(t:Tok):Zb10 (.inl i) (.int i t)=true:=by simp[Zb10,Value.isInt]
theorem Zm7(x:Str)(t:Tok):Zb10 (.inr x) (.str x t)=true:=by simp[Zb10,Value.isStrOf]
theorem ZS12(a b:Int):decide ((Sum.inl a:Key)=Sum.inl b)=(a == b):=by
 by_cases e:a=b
 .subst e;simp
 .have h:¬ (Sum.inl a:Key)=Sum.inl b:=λq=>e (Sum.inl.inj q);rw[YT h];exact(Y1e.mpr e).symm
theorem ZP12(a b:Str):decide ((Sum.inr a:Key)=Sum.inr b)=decide (a=b):=by
 by_cases e:a=b
 .subst e;simp
 .have h:¬ (Sum.inr a:Key)=Sum.inr b:=λq=>e (Sum.inr.inj q);rw[YT h,YT e]
theorem ZR12(a:Int)(b:Str):decide ((Sum.inl a:Key)=Sum.inr b)=false:=YT (λq=>nomatch q)
theorem ZQ12(a:Str)(b:Int):decide ((Sum.inr a:Key)=Sum.inl b)=false:=YT (λq=>nomatch q)
def Zz61(prog:Program)(w:World):PySem.KeyKind prog w Key where
 is:=Zb10
 hash:=keyH w
 inj:=λv a b ha hb=>by
  rcases ZB ha with ⟨i,t,rfl,rfl⟩ | ⟨x,t,rfl,rfl⟩
  .rcases ZB hb with ⟨j,u,rfl,e⟩ | ⟨y,u,rfl,e⟩
   .injection e with e1 _;rw[e1]
   .exact nomatch e
  .rcases ZB hb with ⟨j,u,rfl,e⟩ | ⟨y,u,rfl,e⟩
   .exact nomatch e
   .injection e with e1 _;rw[e1]
 byValue:=λk v h=>by rcases ZB h with ⟨i,t,rfl,rfl⟩ | ⟨x,t,rfl,rfl⟩ <;> rfl
 pyHash:=λhv h=>by
  rcases ZB hv with ⟨i,t,rfl,rfl⟩ | ⟨x,t,rfl,rfl⟩
  .exact wpAny_pyHash_int h
  .exact wpAny_pyHash_str h
 eqBool:=λhu hv h=>by
  rcases ZB hu with ⟨i,t,rfl,rfl⟩ | ⟨x,t,rfl,rfl⟩
  .rcases ZB hv with ⟨j,u,rfl,rfl⟩ | ⟨y,u,rfl,rfl⟩
   .rw[ZS12]at h;exact wpAny_eqBool_int h
   .rw[ZR12]at h;exact SeqAt.EqAt.int_str i t y u _ _ _ _ h
  .rcases ZB hv with ⟨j,u,rfl,rfl⟩ | ⟨y,u,rfl,rfl⟩
   .rw[ZQ12]at h;exact SeqAt.EqAt.str_int x t j u _ _ _ _ h
   .rw[ZP12]at h;exact wpAny_eqBool_str h
 «strs»:=λk x t v h=>by
  rcases ZB h with ⟨i,u,rfl,e⟩ | ⟨y,u,rfl,e⟩
  .exact nomatch e
  .injection e with e1 _;subst e1;cases v <;> rfl
theorem ZT4(prog:Program)(w:World)(i:Int)(t:Tok):(Zz61 prog w).is (.inl i) (.int i t)=true:=Zn7 i t
theorem ZS4(prog:Program)(w:World)(x:Str)(t:Tok):(Zz61 prog w).is (.inr x) (.str x t)=true:=Zm7 x t
inductive V where
 | non | bl (b:Bool) | int (i:Int) | str (x:Str) | byt (b:Array UInt8) | flt (b:UInt64) | ref (a:Addr) | ty (n:String)
 deriving DecidableEq
def RelV:V->Value->Prop
 | .non,u=>u=Value.none
 | .bl b,u=>u=Value.bool b
 | .int i,u=>∃ t,u=Value.int i t
 | .str x,u=>∃ t,u=Value.str x t
 | .byt b,u=>∃ t,u=Value.bytes b t
 | .flt b,u=>∃ t,u=Value.float b t
 | .ref a,u=>u=Value.ref a
 | .ty n,u=>u=Value.type n
abbrev Vals:List V->List Value->Prop:=Paired RelV
theorem Vals.length{xs:List V}{us:Ag}(r:Vals xs us):xs.length=us.length:=Paired.length r
theorem Vals.get:∀ {xs:List V} {us:Ag} {i:Nat} {x:V},Vals xs us->xs[i]?=some x->∃ u,us[i]?=some u/\RelV x u
 | _,_,_,_,.nil,e=>by simp at e
 | _,_,0,_,.cons r _,e=>by simp at e;subst e;exact⟨_,rfl,r⟩
 | _,_,i+1,x,.cons _ t,e=>by obtain⟨u,h1,h2⟩:=Vals.get (i:=i) (x:=x) t (by simpa using e);exact⟨u,by simpa using h1,h2⟩
theorem Vals.set{x:V}{u:Value}(r:RelV x u):∀ {xs:List V} {us:Ag} (i:Nat),Vals xs us->Vals (xs.set i x) (us.set i u)
 | _,_,_,.nil=>.nil
 | _,_,0,.cons _ t=>.cons r t
 | _,_,i+1,.cons q t=>.cons q (Vals.set r i t)
theorem Vals.append:∀ {xs ys:List V} {us ws:Ag},Vals xs us->Vals ys ws->Vals (xs++ys) (us++ws)
 | _,_,_,_,.nil,s=>s
 | _,_,_,_,.cons r t,s=>.cons r (Vals.append t s)
theorem Vals.take:∀ {xs:List V} {us:Ag} (n:Nat),Vals xs us->Vals (xs.take n) (us.take n)
 | _,_,0,_=>.nil
 | _,_,_+1,.nil=>.nil
 | _,_,n+1,.cons r t=>.cons r (Vals.take n t)
theorem Vals.drop:∀ {xs:List V} {us:Ag} (n:Nat),Vals xs us->Vals (xs.drop n) (us.drop n)
 | _,_,0,r=>r
 | _,_,_+1,.nil=>.nil
 | _,_,n+1,.cons _ t=>Vals.drop n t
def RelO:Option V->Option Value->Prop
 | some v,some u=>RelV v u
 | none,none=>True
 | _,_=>False
def KV{κ:Type}:List (κ × V)->List (κ × Value)->Prop:=Paired λ(p:κ × V) (q:κ × Value)=>p.1=q.1/\RelV p.2 q.2
def kV:Key->V
 | .inl i=>.int i
 | .inr x=>.str x
inductive HO where
 | lst (xs:List V)
 | tup (xs:List V)
 | dK (kvs:List (Key × V)) | dT (kvs:List (List Key × V))
 | set (S:Int->Bool) (n:Nat)
 | ins (C dx:Addr) (fs:List (Str × V))
 | own (x:Addr)
 | xd (fs:List (Str × V))
 | met (f x:Addr)
 | rng (lo hi:Int)
 | frz (o:Obj) (u:HO)
 | tbl (ps:Array Value)
 | ext (φ:Heap->Prop)
abbrev Hp:=Addr->Option HO
def upd(H:Hp)(a:Addr)(o:HO):Hp:=λb=>if b=a then some o else H b
theorem Zz1{H:Hp}{a:Addr}{o:HO}:upd H a o a=some o:=by unfold upd;rw[if_pos rfl]
theorem Zz9{H:Hp}{a b:Addr}{o:HO}(h:b≠a):upd H a o b=H b:=by unfold upd;rw[if_neg h]
theorem Zb4{H:Hp}{a b:Addr}{o u:HO}(h:H a=some o)(h':H b=some u)(d:o≠u):a≠b:=by intro e;subst e;rw[h]at h';exact d (Yd h')
theorem Zb{H:Hp}{a b:Addr}{o:HO}(h:H a=some o)(h':H b=none):a≠b:=by intro e;subst e;rw[h]at h';cases h'
section
variable(P:Program)(w:World)
def ObjOk(H:Hp)(h:Heap)(a:Addr):HO->Prop
 | .lst xs=>xs.length<=sizeLine/\∃(its:Ag) (n:Nat),Vals xs its/\h.get? a=some { cls:=.type "list",data:=.seq its.toArray n }
 | .tup xs=>xs.length<=sizeLine/\∃ its:Ag,Vals xs its/\IsTup h a its.toArray
 | .dK kvs=>kvs.length<=sizeLine/\(a == sysModules)=false/\∃ vs,KV kvs vs/\h.DictOf (Zz61 P w) a vs
 | .dT kvs=>kvs.length<=sizeLine/\(a == sysModules)=false/\∃ xs:List (List Key × Addr × Value),
   Paired (λ(p:List Key × V) (q:List Key × Addr × Value)=>p.1=q.1/\H q.2.1=some (.tup (p.1.map kV))/\RelV p.2 q.2.2) kvs xs /\
   ∃ o es ep,h.get? a=some o/\o.ExactDict/\o.data=.dict es ep/\es.toList=xs.map (entryOfKey (tupleKind (Zz61 P w)))/\(xs.map (·.1)).Nodup
 | .set S n=>h.SetOf (intKind P w) a S n
 | .ins C dx fs=>H dx=some (.own a)/\fs.length<=1000/\dx≠a/\h.get? a=some (PySem.W.instObj C dx) /\
   ∃ mA,h.Ns1 dx mA/\(∀ f,RelO (fs.lookup f) (mA f))/\PySem.Within mA (fs.map (·.1))
 | .own _=>∃ o,h.get? a=some o
 | .xd fs=>∃ mA,h.Ns1 a mA/\∀ f,RelO (fs.lookup f) (mA f)
 | .rng lo hi=>∃ t u v,h.get? a=some { cls:=.type "range",data:=.fields #[.int lo t,.int hi u,.int 1 v] }
 | .frz o u=>h.get? a=some o/\ObjOk H h a u
 | .tbl ps=>h.get? a=some { cls:=.none,data:=.fields ps }
 | .met f x=>h.get? a=some (PySem.W.methodObj (.ref f) (.ref x))
 | .ext φ=>φ h/\(∃ o,h.get? a=some o)/\∀ h1 h2:Heap,φ h1->(∀ o,h1.get? a=some o->h2.get? a=some o)->φ h2
def HOk(H:Hp)(h:Heap):Prop:=∀ a o,H a=some o->ObjOk P w H h a o
end
section
variable{P:Program}{w:World}{H H':Hp}{h h':Heap}{a:Addr}{o:HO}
theorem ObjOk.lt(x:ObjOk P w H h a o):a<h.objs.size:=by
 cases o with
 | lst xs=>obtain⟨_,_,_,_,e⟩:=x;exact Yh e
 | tup xs=>obtain⟨_,_,_,p⟩:=x;exact p.lt
 | dK kvs=>obtain⟨_,_,_,_,o,_,_,e,_⟩:=x;exact Yh e
 | dT kvs=>obtain⟨_,_,_,_,o,_,_,e,_⟩:=x;exact Yh e
 | set S n=>obtain⟨o,_,_,_,e,_⟩:=x;exact Yh e
 | ins C dx fs=>obtain⟨_,_,_,e,_⟩:=x;exact Yh e
 | own y=>obtain⟨_,e⟩:=x;exact Yh e
 | xd fs=>obtain⟨_,⟨_,_,_,e,_⟩,_⟩:=x;exact Yh e
 | rng lo hi=>obtain⟨_,_,_,e⟩:=x;exact Yh e
 | frz ob u=>obtain⟨e,_⟩:=x;exact Yh e
 | tbl ps=>exact Yh (show h.get? a=some _ from x)
 | met f y=>exact Yh (show h.get? a=some _ from x)
 | ext φ=>obtain⟨_,⟨_,e⟩,_⟩:=x;exact Yh e
theorem Paired.mapP{α β:Type}{F G:α->β->Prop}:∀ {l₁:List α} {l₂:List β},Paired F l₁ l₂->(∀ a b,F a b->G a b)->Paired G l₁ l₂
 | _,_,.nil,_=>.nil
 | _,_,.cons r t,f=>.cons (f _ _ r) (Paired.mapP t f)
theorem ObjOk.stay(x:ObjOk P w H h a o)(k:∀ b u,(b=a\/H b=some (.own a))->h.get? b=some u->h'.get? b=some u)
  (ho:∀ b,H b=some (.own a)->H' b=some (.own a)) (ht:∀ b xs,H b=some (.tup xs)->H' b=some (.tup xs)):ObjOk P w H' h' a o:=by
 induction o with
 | lst xs=>obtain⟨z,its,n,r,e⟩:=x;exact⟨z,its,n,r,k _ _ (.inl rfl) e⟩
 | tup xs=>obtain⟨z,its,r,ob,e,c⟩:=x;exact⟨z,its,r,ob,k _ _ (.inl rfl) e,c⟩
 | dK kvs=>obtain⟨z,y,vs,r,ob,es,ep,e,c⟩:=x;exact⟨z,y,vs,r,ob,es,ep,k _ _ (.inl rfl) e,c⟩
 | dT kvs =>
  obtain⟨z,y,xs,r,ob,es,ep,e,c⟩:=x;exact⟨z,y,xs,Paired.mapP r λp q z=>⟨z.1,ht _ _ z.2.1,z.2.2⟩,ob,es,ep,k _ _ (.inl rfl) e,c⟩
 | set S n=>obtain⟨ob,es,ep,t,e,c⟩:=x;exact⟨ob,es,ep,t,k _ _ (.inl rfl) e,c⟩
 | ins C dx fs =>
  obtain⟨d,z,ne,e,mA,⟨od,es,ep,e2,c⟩,r⟩:=x;exact⟨ho _ d,z,ne,k _ _ (.inl rfl) e,mA,⟨od,es,ep,k _ _ (.inr d) e2,c⟩,r⟩
 | own y=>obtain⟨ob,e⟩:=x;exact⟨ob,k _ _ (.inl rfl) e⟩
 | xd fs=>obtain⟨mA,⟨od,es,ep,e,c⟩,r⟩:=x;exact⟨mA,⟨od,es,ep,k _ _ (.inl rfl) e,c⟩,r⟩
 | rng lo hi=>obtain⟨t,u,v,e⟩:=x;exact⟨t,u,v,k _ _ (.inl rfl) e⟩
 | frz ob u ih=>obtain⟨e,q⟩:=x;exact⟨k _ _ (.inl rfl) e,ih q⟩
 | tbl ps =>
  have e:h.get? a=some { cls:=.none,data:=.fields ps }:=x;show h'.get? a=some { cls:=.none,data:=.fields ps }
  exact k a _ (.inl rfl) e
 | met f y =>
  have e:h.get? a=some (PySem.W.methodObj (.ref f) (.ref y)):=x;show h'.get? a=some (PySem.W.methodObj (.ref f) (.ref y))
  exact k a _ (.inl rfl) e
 | ext φ=>obtain⟨p,⟨o,e⟩,st⟩:=x;exact⟨st _ _ p λo q=>k _ _ (.inl rfl) q,⟨o,k _ _ (.inl rfl) e⟩,st⟩
theorem HOk.lt(x:HOk P w H h)(e:H a=some o):a<h.objs.size:=(x a o e).lt
theorem HOk.fresh(x:HOk P w H h)(e:h.objs.size<=a):H a=none:=by
 cases q:H a with
 | none=>rfl
 | some u=>exact absurd (Ym (x.lt q) e) (Y0I _)
theorem HOk.kept(x:HOk P w H h)(k:∀ b u,h.get? b=some u->h'.get? b=some u):HOk P w H h':=λa o e =>
 (x a o e).stay (λb u _ q=>k b u q) (λ_ q=>q) λ_ _ q=>q
theorem HOk.laid(x:HOk P w H h)(k:∀ b u,h.get? b=some u->h'.get? b=some u)(hp:h.objs.size<=a)(new:ObjOk P w (upd H a o) h' a o):HOk P w (upd H a o) h':=λb u e=>by
 have hn:=x.fresh hp;by_cases hb:b=a
 .subst hb;rw[Zz1]at e;cases e;exact new
 .rw[Zz9 hb]at e;exact(x b u e).stay (λc v _ q=>k c v q) (λc q=>by rwa[Zz9 (Zb q hn)]) λc xs q=>by rwa[Zz9 (Zb q hn)]
end
def Rd(H:Hp)(a:Addr)(u:HO):Prop:=H a=some u\/∃ o,H a=some (.frz o u)
theorem Rd.ok{P:Program}{w:World}{H:Hp}{h:Heap}{a:Addr}{u:HO}(r:Rd H a u)(x:HOk P w H h):ObjOk P w H h a u:=by
 rcases r with r | ⟨o,r⟩
 .exact x a u r
 .obtain⟨_,q⟩:=x a _ r;exact q
def Mut:Option HO->Prop
 | some (.lst _)=>True
 | some (.dK _)=>True
 | some (.dT _)=>True
 | some (.set _ _)=>True
 | some (.ins _ _ _)=>True
 | some (.ext _)=>True
 | _=>False
section
variable{P:Program}{w:World}{H:Hp}{h h':Heap}{x e:Addr}{o':HO}
theorem HOk.write(ok:HOk P w H h)(mu:Mut (H x))(he:e=x\/H e=some (.own x))(k:∀ b u,b≠e->h.get? b=some u->h'.get? b=some u)(heo:∃ u,h'.get? e=some u)
  (new:ObjOk P w (upd H x o') h' x o'):HOk P w (upd H x o') h':=λb u q=>by
 have nown:∀ c y,H c=some (.own y)->c≠x:=λc y r z=>by subst z;rwa[r]at mu
 have ntup:∀ c xs,H c=some (.tup xs)->c≠x:=λc xs r z=>by subst z;rwa[r]at mu
 by_cases hb:b=x
 .subst hb;rw[Zz1]at q;cases q;exact new
 .rw[Zz9 hb]at q;by_cases hbe:b=e
  .have q':H b=some (.own x):=by
    rcases he with z | z
    .exact absurd (hbe.trans z) hb
    .rw[hbe];exact z
   rw[q]at q';cases q';obtain⟨v,hv⟩:=heo;exact⟨v,by rwa[hbe]⟩
  .refine(ok b u q).stay (λc v hc r=>k c v ?_ r) (λc r=>by rwa[Zz9 (nown c b r)]) λc xs r=>by rwa[Zz9 (ntup c xs r)]
   rcases hc with rfl | hc
   .exact hbe
   .rintro rfl;rcases he with z | z
    .exact nown c b hc z
    .rw[hc]at z;cases z;exact hb rfl
end
structure Un (fs ex:List Addr) (H H':Hp) (h h':Heap):Prop where
 keep:∀ b o,h.get? b=some o->H b=none->b∉fs->b∉ex->h'.get? b=some o
 slot:∀ b o,h.get? b=some o->H b=none->b∈fs->b∉ex->∃ sl,h'.get? b=some { o with slots:=sl }
 free:∀ b o,h.get? b=some o->H b=none->b∉ex->H' b=none
 there:∀ b o,h.get? b=some o->b∉ex->∃ o',h'.get? b=some o'
 tups:∀ b xs,H b=some (.tup xs)->H' b=some (.tup xs)
 frzs:∀ b o u,H b=some (.frz o u)->H' b=some (.frz o u)
 tbls:∀ b ps,H b=some (.tbl ps)->∃ more,H' b=some (.tbl (ps++more))
section
variable{fs ex:List Addr}{H H1:Hp}{h h1 h':Heap}{a x e:Addr}{o:HO}
theorem Un.any(u:Un fs ex H H1 h h1){b:Addr}{ob:Obj}(q:h.get? b=some ob)(n:H b=none)(hx:b∉ex):∃ sl,h1.get? b=some { ob with slots:=sl }:=by
 by_cases hb:b∈fs
 .exact u.slot b ob q n hb hx
 .exact⟨ob.slots,u.keep b ob q n hb hx⟩
theorem Un.kept(k:∀ b u,h.get? b=some u->h'.get? b=some u):Un fs ex H H h h' :=
 ⟨λb ob q _ _ _=>k b ob q,λb ob q _ _ _=>⟨ob.slots,k b ob q⟩,λ_ _ _ n _=>n,λb ob q _=>⟨ob,k b ob q⟩,λ_ _ q=>q,λ_ _ _ q=>q,λ_ ps q=>⟨#[],by rw[q];simp⟩⟩
theorem Un.refl:Un fs ex H H h h:=Un.kept λ_ _ q=>q
theorem Un.laid(k:∀ b u,h.get? b=some u->h'.get? b=some u)(hp:h.objs.size<=a)(hn:H a=none):Un fs ex H (upd H a o) h h' where
 keep:=λb u q _ _ _=>k b u q
 slot:=λb u q _ _ _=>⟨u.slots,k b u q⟩
 free:=λb u q n _=>by rwa[Zz9 (Yo (Ym (Yh q) hp))]
 there:=λb u q _=>⟨u,k b u q⟩
 tups:=λb xs q=>by rwa[Zz9 (Zb q hn)]
 frzs:=λb u xs q=>by rwa[Zz9 (Zb q hn)]
 tbls:=λb ps q=>⟨#[],by rw[Zz9 (Zb q hn),q];simp⟩
theorem Un.write(mu:Mut (H x))(he:e=x\/H e=some (.own x))(k:∀ b u,b≠e->h.get? b=some u->h'.get? b=some u)(heo:∃ u,h'.get? e=some u):Un fs ex H (upd H x o) h h':=by
 have hx:∀ b,H b=none->b≠x:=λb n z=>by subst z;rwa[n]at mu
 have hb:∀ b,H b=none->b≠e:=λb n z=>by
  subst z;rcases he with r | r
  .exact hx b n r
  .rw[n]at r;cases r
 have hm:∀ b u,H b=some u->¬ Mut (some u)->b≠x:=λb u q nm z=>by subst z;rw[q]at mu;exact nm mu
 refine⟨λb u q n _ _=>k b u (hb b n) q,λb u q n _ _=>⟨u.slots,k b u (hb b n) q⟩,λb u q n _=>by rw[Zz9 (hx b n)];exact n,λb u q _=>?_,
  λb xs q=>by rw[Zz9 (hm b _ q λz=>z)];exact q,λb u xs q=>by rw[Zz9 (hm b _ q λz=>z)];exact q,λb ps q=>⟨#[],by rw[Zz9 (hm b _ q λz=>z),q];simp⟩⟩
 by_cases hbe:b=e
 .subst hbe;exact heo
 .exact⟨u,k b u hbe q⟩
end
def trk(h:Heap)(H:Hp):List Addr:=(List.range h.objs.size).filter λa=>(H a).isSome
def hidT(h:Heap)(H:Hp):Heap:=PySem.W.hideAll h (trk h H)
theorem Zt7(h:Heap)(H:Hp):(hidT h H).objs.size=h.objs.size:=PySem.W.hideAll_size _ _
theorem ZC9{h:Heap}{H:Hp}{b:Addr}{o:Obj}(e:h.get? b=some o)(n:H b=none):(hidT h H).get? b=some o :=
 PySem.W.hideAll_get _ e λhm=>by have q:(H b).isSome=true:=(Yn.mp hm).2;rw[n]at q;simp at q
theorem Zz111{h:Heap}{H:Hp}{b:Addr}{o:Obj}(e:(hidT h H).get? b=some o):h.get? b=some o/\H b=none:=by
 have e':h.get? b=some o:=PySem.W.of_hideAll (trk h H) e;refine⟨e',?_⟩;cases q:H b with
 | none=>rfl
 | some x =>
  have hm:b∈trk h H:=Yn.mpr ⟨YG.mpr (Yh e'),by simp[q]⟩;have z:(hidT h H).get? b=none:=Y2k (trk h H) hm
  rw[z]at e;cases e
def ZX11(g h:Heap)(L:Addr):List (Addr × Obj):=(List.range h.objs.size).filterMap λa=>if a=L\/(g.get? a).isSome=true then none else (h.get? a).map λo=>(a,o)
def rest(g h:Heap)(L d:Addr):List (Addr × Obj):=(ZX11 g h L).filter λp=>decide (p.1≠d)
structure Mod (K:Ad) (mg:Af) (base:Heap):Prop where
 kin:K.In base
 glob:base.Ns mainGlobals mg
 blt:∃ mb,base.Ns builtinsNs mb/\∀ x:Str,x≠"__name__"->mb x=bootBuiltins x
 nolimit:base.NoLimit
structure Cx where
 prog:Program
 w:World
 K:Ad
 mg:Af
 base:Heap
 A:Around
 N:List Str
 s₀:Shared
 H₀:Hp
 env:Env
 outer:List Env
 stack:List Env
 ex:List Addr
 fn:Str->Bool
 calm:Bool
 pn:List (Addr × Obj)
 xe:Ae
def frs(l:List Env):List Addr:=l.filterMap (·.frame)
abbrev Cx.fs(X:Cx):List Addr:=frs X.outer
def Vis(sc:Scope)(x:Str):Prop:=sc.names.lookup x=some .local\/sc.names.lookup x=some .cell\/sc.names.lookup x=some .free
def Loc(sc:Scope)(x:Str):Prop:=sc.names.lookup x=some .local\/sc.names.lookup x=some .cell
def Look(env:Env)(h:Heap)(m:Af)(x:Str)(u:Value):Prop :=
 (env.kindOf x=some .local/\m x=some u)\/((env.kindOf x=some .cell\/env.kindOf x=some .free)/\∃ c,env.cells.lookup x=some c/\h.IsCell c (some u))
structure Cx.Ok (X:Cx):Prop where
 mod:Mod X.K X.mg X.base
 kind:X.env.scope.kind=.function
 glob:X.env.globals=mainGlobals
 blt:X.env.builtins=builtinsNs
 above:X.s₀.heap.objs.size<=X.env.locals
 inj:∀ x y c,X.env.cells.lookup x=some c->X.env.cells.lookup y=some c->x=y
 has:∀ x,(X.env.kindOf x=some .cell\/X.env.kindOf x=some .free)->∃ c,X.env.cells.lookup x=some c
 cab:∀ x c,X.fn x=true->X.env.cells.lookup x=some c->X.s₀.heap.objs.size<=c
 hd:X.calm=true->X.A.handled=none
 frames:X.A.frames=some X.stack
 stk:X.stack=X.outer\/(X.stack=X.env :: X.outer/\X.env.frame=some X.env.locals)
 exf:∀ b∈X.ex,b≠X.env.locals/\∀ x c,X.env.cells.lookup x=some c->c≠b
 bs:∀ b o,X.base.get? b=some o->X.s₀.heap.get? b=some o/\X.H₀ b=none
 bsz:X.base.objs.size<=X.s₀.heap.objs.size
 noex:∀ b o,X.base.get? b=some o->b∉X.ex
 exfs:∀ b∈X.ex,b∉X.fs
 funs:X.s₀.heap.FunFrames X.base X.outer
 frf:∀ b∈X.fs,X.H₀ b=none
structure Inv (X:Cx) (pins:List (Addr × Obj)) (σ:List (Option V)) (H:Hp) (s:Shared):Prop where
 ok:X.Ok
 os:s.os=X.s₀.os
 bare:AllBare s.gens
 base:Un X.fs X.ex X.H₀ H X.s₀.heap s.heap
 loc:∃ m,s.heap.Ns X.env.locals m/\∀(i:Nat) (x:Str) (v:V),X.N[i]?=some x->σ[i]?=some (some v)->Vis X.env.scope x->∃ u,RelV v u/\Look X.env s.heap m x u
 cell:∀ x c,X.env.cells.lookup x=some c->∃ v,s.heap.IsCell c v
 free:H X.env.locals=none
 freeC:∀ x c,X.env.cells.lookup x=some c->H c=none
 pin:∀ p∈X.pn++pins,s.heap.get? p.1=some p.2/\H p.1=none/\p.1≠X.env.locals/\p.1∉X.fs/\∀ v,p.2.data≠.cell v
 hok:HOk X.prog X.w H s.heap
 len:σ.length=X.N.length
section
variable{X:Cx}{pins:List (Addr × Obj)}{σ:List (Option V)}{H H':Hp}{s:Shared}{h':Heap}
theorem Cx.Ok.nofr(ok:X.Ok){b:Addr}{o:Obj}(e:X.base.get? b=some o):b∉X.fs:=λhb=>by
 have:=(ok.funs.mem hb).1
 rw[e]at this;cases this
theorem Inv.bs(I:Inv X pins σ H s):∀ b o,X.base.get? b=some o->s.heap.get? b=some o/\H b=none:=λb o e =>
 ⟨I.base.keep b o (I.ok.bs b o e).1 (I.ok.bs b o e).2 (I.ok.nofr e) (I.ok.noex b o e),I.base.free b o (I.ok.bs b o e).1 (I.ok.bs b o e).2 (I.ok.noex b o e)⟩
theorem Inv.bk(I:Inv X pins σ H s):∀ b o,X.base.get? b=some o->s.heap.get? b=some o:=λb o e=>(I.bs b o e).1
theorem Inv.mod(I:Inv X pins σ H s):Mod X.K X.mg X.base:=I.ok.mod
theorem Inv.kIn(I:Inv X pins σ H s):X.K.In s.heap:=I.ok.mod.kin.keeps I.bk
theorem Inv.lt(I:Inv X pins σ H s):X.env.locals<s.heap.objs.size:=let ⟨_,hn,_⟩:=I.loc;hn.lt
theorem Inv.sz(I:Inv X pins σ H s):X.s₀.heap.objs.size<=s.heap.objs.size:=YD I.ok.above (Y1J I.lt)
theorem Inv.nofs(I:Inv X pins σ H s){a:Addr}(h:s.heap.objs.size<=a):a∉X.fs:=λhb=>by obtain⟨_,o,ho,_⟩:=I.ok.funs.mem hb;exact absurd (Ym (Yh ho) (YD I.sz h)) (Y0I _)
theorem Inv.cne(I:Inv X pins σ H s):∀ x c,X.env.cells.lookup x=some c->c≠X.env.locals:=λx c e z=>by obtain⟨v,o,ho,hd⟩:=I.cell x c e;obtain⟨m,⟨o',es,ep,ho',hd',_⟩,_⟩:=I.loc;rw[z,ho']at ho;cases ho;rw[hd']at hd;cases hd
theorem Inv.funs(I:Inv X pins σ H s):s.heap.FunFrames X.base X.outer:=by
 have all:∀(l:List Env),(∀ b∈frs l,b∈X.fs)->X.s₀.heap.FunFrames X.base l->s.heap.FunFrames X.base l:=by
  intro l
  induction l with
  | nil=>intro _ _;trivial
  | cons env r ih =>
   intro hs hl;obtain⟨hk,⟨L,o,hf,hn,ho,hd⟩,hr⟩:=hl;have hL:L∈X.fs:=hs L (by unfold frs;rw[Y1h,hf];exact Yk)
   obtain⟨sl,e⟩:=I.base.slot L o ho (I.ok.frf L hL) hL λz=>I.ok.exfs L z hL;exact⟨hk,⟨L,_,hf,hn,e,hd⟩,ih (λb hb=>hs b (by unfold frs;rw[Y1h,hf];exact Yi _ hb)) hr⟩
 exact all X.outer (λ_ hb=>hb) I.ok.funs
theorem Inv.stack(I:Inv X pins σ H s):s.heap.FunFrames X.base X.stack:=by
 rcases I.ok.stk with e | ⟨e,hf⟩
 .rw[e];exact I.funs
 .rw[e];obtain⟨m,hn,_⟩:=I.loc;refine .cons (by rw[I.ok.kind];decide) hf hn ?_ I.funs;exact Heap.get?_none_of_le (YD I.ok.bsz I.ok.above)
theorem Inv.stkSub(I:Inv X pins σ H s):∀ b∈frs X.stack,b∈X.env.locals :: X.fs:=λb hb=>by
 rcases I.ok.stk with e | ⟨e,hf⟩
 .rw[e]at hb;exact Yi _ hb
 .rw[e]at hb;unfold frs at hb;rwa[Y1h,hf]at hb
theorem Inv.stkFree(I:Inv X pins σ H s):∀ b∈frs X.stack,H b=none:=λb hb=>by
 rcases Ye.mp (I.stkSub b hb) with e | hb
 .rw[e];exact I.free
 .obtain⟨_,o,ho,_⟩:=I.ok.funs.mem hb;exact I.base.free b o ho (I.ok.frf b hb) λz=>I.ok.exfs b z hb
theorem Inv.step{g':Array GenState}{t':Nat}{d':Drawn}{ch:List Addr}(I:Inv X pins σ H s)
  (hch:∀ b∈ch,(b∈X.ex\/X.s₀.heap.objs.size<=b)/\b≠X.env.locals/\(∀ x c,X.env.cells.lookup x=some c->c≠b)/\∀ p∈X.pn++pins,p.1≠b)
  (keep:∀ b o,b≠X.env.locals->b∉X.fs->b∉ch->s.heap.get? b=some o->H b=none->h'.get? b=some o)
  (slot:∀ b o,b≠X.env.locals->b∈X.fs->b∉ch->s.heap.get? b=some o->H b=none->∃ sl,h'.get? b=some { o with slots:=sl }) (free:∀ b o,b∉ch->s.heap.get? b=some o->H b=none->H' b=none)
  (there:∀ b o,b∉ch->s.heap.get? b=some o->∃ o',h'.get? b=some o')
  (tups:∀ b xs,H b=some (.tup xs)->H' b=some (.tup xs)) (frzs:∀ b o u,H b=some (.frz o u)->H' b=some (.frz o u)) (tbls:∀ b ps,H b=some (.tbl ps)->∃ more,H' b=some (.tbl (ps++more)))
  (ns:∀ m,s.heap.Ns X.env.locals m->h'.Ns X.env.locals m) (hok:HOk X.prog X.w H' h') (hg:AllBare g') :
  Inv X pins σ H' { s with heap:=h',gens:=g',drawn:=d',toks:=t' }:=by
 have neL:∀ b o,X.s₀.heap.get? b=some o->b≠X.env.locals:=λb o e=>Yo (Ym (Yh e) I.ok.above);have neC:∀ b o,X.s₀.heap.get? b=some o->b∉X.ex->b∉ch:=λb o e hx hb=>by
  rcases(hch b hb).1 with z | z
  .exact hx z
  .exact absurd (Ym (Yh e) z) (Y0I _)
 have cellK:∀ x c,X.env.cells.lookup x=some c->∀ v,s.heap.IsCell c v->h'.IsCell c v:=λx c e v ⟨o,ho,hd⟩=>by
  have nch:c∉ch:=λz=>(hch c z).2.2.1 x c e rfl;by_cases hc:c∈X.fs
  .obtain⟨sl,q⟩:=slot c o (I.cne x c e) hc nch ho (I.freeC x c e);exact⟨_,q,hd⟩
  .exact⟨o,keep c o (I.cne x c e) hc nch ho (I.freeC x c e),hd⟩
 refine⟨I.ok,I.os,hg,⟨λb o e n hb hx=>?_,λb o e n hb hx=>?_,λb o e n hx=>?_,λb o e hx=>?_,λb xs e=>tups b xs (I.base.tups b xs e),λb o xs e=>frzs b o xs (I.base.frzs b o xs e),λb ps e=>?_⟩,?_,λx c e=>?_,?_,λx c e=>?_,λp hp=>?_,hok,I.len⟩
 .exact keep b o (neL b o e) hb (neC b o e hx) (I.base.keep b o e n hb hx) (I.base.free b o e n hx)
 .obtain⟨sl,e1⟩:=I.base.slot b o e n hb hx;obtain⟨sl',e2⟩:=slot b _ (neL b o e) hb (neC b o e hx) e1 (I.base.free b o e n hx);exact⟨sl',e2⟩
 .obtain⟨o',e1⟩:=I.base.there b o e hx;exact free b o' (neC b o e hx) e1 (I.base.free b o e n hx)
 .obtain⟨o',e1⟩:=I.base.there b o e hx;exact there b o' (neC b o e hx) e1
 .obtain⟨m1,e1⟩:=I.base.tbls b ps e;obtain⟨m2,e2⟩:=tbls b _ e1;exact⟨m1++m2,by rw[e2,Array.append_assoc]⟩
 .obtain⟨m,hn,hl⟩:=I.loc;refine⟨m,ns m hn,λi x v e1 e2 e3=>?_⟩;obtain⟨u,r,l⟩:=hl i x v e1 e2 e3;refine⟨u,r,?_⟩;rcases l with l | ⟨k,c,e,z⟩
  .exact .inl l
  .exact .inr ⟨k,c,e,cellK x c e _ z⟩
 .obtain⟨v,z⟩:=I.cell x c e;exact⟨v,cellK x c e v z⟩
 .obtain⟨m,⟨o,_,_,ho,_⟩,_⟩:=I.loc;exact free _ o (λz=>(hch _ z).2.1 rfl) ho I.free
 .obtain⟨v,o,ho,hd⟩:=I.cell x c e;exact free c o (λz=>(hch c z).2.2.1 x c e rfl) ho (I.freeC x c e)
 .obtain⟨e,n,ne,nf,d⟩:=I.pin p hp;have nch:p.1∉ch:=λz=>(hch p.1 z).2.2.2 p hp rfl
  exact⟨keep p.1 p.2 ne nf nch e n,free p.1 p.2 nch e n,ne,nf,d⟩
theorem Inv.un{t':Nat}(I:Inv X pins σ H s)(u:Un X.fs [] H H' s.heap h')(hok:HOk X.prog X.w H' h'):Inv X pins σ H' { s with heap:=h',toks:=t' }:=by
 obtain⟨m,⟨o,es,ep,ho,r⟩,_⟩:=id I.loc;obtain⟨sl,hL⟩:=u.any ho I.free (by simp);exact I.step (g':=s.gens) (d':=s.drawn) (ch:=[]) (λ_ z=>nomatch z) (λb o _ hb _ e n=>u.keep b o e n hb (by simp)) (λb o _ hb _ e n=>u.slot b o e n hb (by simp)) (λb o _ e n=>u.free b o e n (by simp)) (λb o _ e=>u.there b o e (by simp)) u.tups u.frzs u.tbls (λm' hm=>by obtain⟨o',es',ep',ho',r'⟩:=hm;rw[ho]at ho';cases ho';exact⟨_,es',ep',hL,r'⟩) hok I.bare
theorem Inv.call{g':Array GenState}{t':Nat}{d':Drawn}{ch:List Addr}(I:Inv X pins σ H s)(u:Un (frs X.stack) ch H H' s.heap h')(hok:HOk X.prog X.w H' h')(hg:AllBare g')
  (hch:∀ b∈ch,(b∈X.ex\/X.s₀.heap.objs.size<=b)/\b≠X.env.locals/\(∀ x c,X.env.cells.lookup x=some c->c≠b)/\∀ p∈X.pn++pins,p.1≠b) :
  Inv X pins σ H' { s with heap:=h',gens:=g',drawn:=d',toks:=t' }:=by
 obtain⟨m,⟨o,es,ep,ho,r⟩,_⟩:=id I.loc;obtain⟨sl,hL⟩:=u.any ho I.free λz=>(hch _ z).2.1 rfl;exact I.step (ch:=ch) hch (λb o hL hb hc e n=>u.keep b o e n (λz=>(Ye.mp (I.stkSub b z)).elim hL hb) hc) (λb o _ _ hc e n=>u.any e n hc) (λb o hc e n=>u.free b o e n hc) (λb o hc e=>u.there b o e hc) u.tups u.frzs u.tbls (λm' hm=>by obtain⟨o',es',ep',ho',r'⟩:=hm;rw[ho]at ho';cases ho';exact⟨_,es',ep',hL,r'⟩) hok hg
theorem Inv.turned{t':Nat}{it:Addr}(I:Inv X pins σ H s)(k:∀ b o,b≠it->s.heap.get? b=some o->h'.get? b=some o)(hn:H it=none)(hL:it≠X.env.locals)
  (h1:it∈X.ex\/X.s₀.heap.objs.size<=it) (h2:∀ x c,X.env.cells.lookup x=some c->c≠it) (h3:∀ p∈X.pn++pins,p.1≠it):Inv X pins σ H { s with heap:=h',toks:=t' }:=by
 have nit:∀ b u,H b=some u->b≠it:=λb u e z=>by rw[z,hn]at e;cases e
 refine I.step (g':=s.gens) (d':=s.drawn) (ch:=[it]) (λb hb=>?_) (λb o _ _ hc e _=>k b o (λz=>hc (by simp[z])) e) (λb o _ _ hc e _=>⟨o.slots,k b o (λz=>hc (by simp[z])) e⟩) (λ_ _ _ _ n=>n)
  (λb o hc e=>⟨o,k b o (λz=>hc (by simp[z])) e⟩) (λ_ _ e=>e) (λ_ _ _ e=>e) (λb ps e=>⟨#[],by rw[e];simp⟩) (λm hm=>?_) (λb u e=>?_) I.bare
 .have e:b=it:=by simpa using hb
  subst e;exact⟨h1,hL,h2,h3⟩
 .obtain⟨o,es,ep,ho,r⟩:=hm;exact⟨o,es,ep,k _ o (YR hL) ho,r⟩
 .refine(I.hok b u e).stay (λc v hc q=>k c v ?_ q) (λ_ q=>q) λ_ _ q=>q;rcases hc with z | z
  .rw[z];exact nit b u e
  .exact nit c _ z
theorem Inv.tok(I:Inv X pins σ H s)(t:Nat):Inv X pins σ H { s with toks:=t }:=I.un (h':=s.heap) (t':=t) Un.refl I.hok
theorem Inv.kept{t':Nat}(I:Inv X pins σ H s)(k:∀ b u,s.heap.get? b=some u->h'.get? b=some u):Inv X pins σ H { s with heap:=h',toks:=t' }:=I.un (Un.kept k) (I.hok.kept k)
theorem Inv.laid{a:Addr}{o:HO}{t':Nat}(I:Inv X pins σ H s)(k:∀ b u,s.heap.get? b=some u->h'.get? b=some u)(hp:s.heap.objs.size<=a)(new:ObjOk X.prog X.w (upd H a o) h' a o) :
  Inv X pins σ (upd H a o) { s with heap:=h',toks:=t' }:=I.un (Un.laid k hp (I.hok.fresh hp)) (I.hok.laid k hp new)
theorem Inv.write{x e:Addr}{o:HO}{t':Nat}(I:Inv X pins σ H s)(mu:Mut (H x))(he:e=x\/H e=some (.own x))(k:∀ b u,b≠e->s.heap.get? b=some u->h'.get? b=some u)(heo:∃ u,h'.get? e=some u)
  (new:ObjOk X.prog X.w (upd H x o) h' x o):Inv X pins σ (upd H x o) { s with heap:=h',toks:=t' }:=I.un (Un.write mu he k heo) (I.hok.write mu he k heo new)
theorem Inv.weak{σ':List (Option V)}(I:Inv X pins σ H s)(hl:σ'.length=σ.length)(w:∀(i:Nat) v,σ'[i]?=some (some v)->σ[i]?=some (some v)):Inv X pins σ' H s :=
 ⟨I.ok,I.os,I.bare,I.base,let ⟨m,hn,hl'⟩:=I.loc;⟨m,hn,λi x v e1 e2 e3=>hl' i x v e1 (w i v e2) e3⟩,I.cell,I.free,I.freeC,I.pin,I.hok,hl.trans I.len⟩
theorem Inv.pins_of{pins':List (Addr × Obj)}(I:Inv X pins σ H s)(h:∀ p∈pins',s.heap.get? p.1=some p.2/\H p.1=none/\p.1≠X.env.locals/\p.1∉X.fs/\∀ v,p.2.data≠.cell v):Inv X pins' σ H s :=
 ⟨I.ok,I.os,I.bare,I.base,I.loc,I.cell,I.free,I.freeC,λp hp=>(Ya.mp hp).elim (λz=>I.pin p (Yg _ z)) (h p),I.hok,I.len⟩
theorem Yz3{N:List Str}(hN:N.Nodup){i j:Nat}{x:Str}(a:N[i]?=some x)(b:N[j]?=some x):i=j:=by obtain⟨h1,e1⟩:=Yy3.mp a;obtain⟨h2,e2⟩:=Yy3.mp b;exact(List.getElem_inj hN).mp (e1.trans e2.symm)
theorem ZZ3{M:Model}{A:Around}{E:Ae}{i:Nat}{x:Str}{v:V}{u:Value}{Q:Unit->Shared->Prop}(I:Inv X pins σ H s)(hN:X.N.Nodup)(hi:X.N[i]?=some x)(hx:Loc X.env.scope x)(r:RelV v u)
  (h:∀ s',Inv X pins (σ.set i (some v)) H s'->(∃ a,Heap.SameBut a s.heap s'.heap/\(a=X.env.locals\/X.env.cells.lookup x=some a))->Q () s') (hf:X.fn x=true\/X.env.scope.names.lookup x=some .local:=by first | exact .inl rfl | exact .inr rfl | assumption):wpAny M A (storeName X.env x u) Q E s:=by
 obtain⟨m,hn,hl⟩:=id I.loc;have hcls:(X.env.scope.kind == .class || (X.env.scope.kind == .module && X.env.locals != X.env.globals))=false:=by rw[I.ok.kind];rfl
 have hiσ:i<σ.length:=by rw[I.len];exact(Yy3.mp hi).1
 have cne:=I.cne;have tracked:∀ {a:Addr} {h':Heap},(∃ o,s.heap.get? a=some o/\H a=none)->Heap.SameBut a s.heap h'->HOk X.prog X.w H h':=λ{a h'} ha hs b ob e=>by
  obtain⟨_,_,hfree⟩:=ha;refine(I.hok b ob e).stay (λc w' hc q=>(hs.2 c ?_).trans q) (λ_ q=>q) λ_ _ q=>q;rintro rfl;rcases hc with rfl | hc
  .rw[hfree]at e;cases e
  .rw[hfree]at hc;cases hc
 rcases hx with hk | hk
 .refine wpAny_storeName_local hk hn (λh' hn' hs=>?_) hcls;obtain⟨oL,_,_,hoL,_⟩:=id hn;refine h _ ⟨I.ok,I.os,I.bare,⟨λb o e n hb hx=>?_,λb o e n hb hx=>?_,I.base.free,λb o e hx=>?_,I.base.tups,I.base.frzs,I.base.tbls⟩,⟨_,hn',λj y v' e1 e2 e3=>?_⟩,λy c e=>?_,I.free,I.freeC,λp hp=>?_,tracked ⟨oL,hoL,I.free⟩ hs,by simpa using I.len⟩ ⟨_,hs,.inl rfl⟩
  .exact(hs.2 b (Yo (Ym (Yh e) I.ok.above))).trans (I.base.keep b o e n hb hx)
  .obtain⟨sl,e1⟩:=I.base.slot b o e n hb hx;exact⟨sl,(hs.2 b (Yo (Ym (Yh e) I.ok.above))).trans e1⟩
  .obtain⟨o',e1⟩:=I.base.there b o e hx;exact⟨o',(hs.2 b (Yo (Ym (Yh e) I.ok.above))).trans e1⟩
  .by_cases hj:j=i
   .subst hj;rw[hi]at e1;cases e1;rw[Y1w hiσ]at e2;cases e2;exact⟨u,r,.inl ⟨hk,by simp⟩⟩
   .rw[Y1L (YR hj)]at e2;obtain⟨u',r',q⟩:=hl j y v' e1 e2 e3;refine⟨u',r',?_⟩;rcases q with ⟨k,e⟩ | ⟨k,c,e,z⟩
    .refine .inl ⟨k,?_⟩
     have:y≠x:=λe=>hj (Yz3 hN e1 (e ▸ hi))
     simp[this,e]
    .exact .inr ⟨k,c,e,z.sameBut hs (cne y c e)⟩
  .obtain⟨w',z⟩:=I.cell y c e;exact⟨w',z.sameBut hs (cne y c e)⟩
  .obtain⟨e,n,ne,nf,d⟩:=I.pin p hp;exact⟨(hs.2 p.1 ne).trans e,n,ne,nf,d⟩
 .have hfn:X.fn x=true:=by
   rcases hf with z | z
   .exact z
   .rw[z]at hk;cases hk
  obtain⟨c,hc⟩:=I.ok.has x (.inl hk);obtain⟨w',z⟩:=I.cell x c hc;refine wpAny_storeName_cell I.ok.kind hk hc z (λh' hc' hs=>?_);obtain⟨oc,hoc,hocd⟩:=id z;refine h { s with heap:=h' } ⟨I.ok,I.os,I.bare,⟨λb o e n hb hx=>?_,λb o e n hb hx=>?_,I.base.free,λb o e hx=>?_,I.base.tups,I.base.frzs,I.base.tbls⟩,⟨m,hn.sameBut hs (YR (cne x c hc)),λj y v' e1 e2 e3=>?_⟩,λy c' e=>?_,I.free,I.freeC,λp hp=>?_,tracked ⟨oc,hoc,I.freeC x c hc⟩ hs,by simpa using I.len⟩ ⟨c,hs,.inr hc⟩
  .exact(hs.2 b (Yo (Ym (Yh e) (I.ok.cab x c hfn hc)))).trans (I.base.keep b o e n hb hx)
  .obtain⟨sl,e1⟩:=I.base.slot b o e n hb hx;exact⟨sl,(hs.2 b (Yo (Ym (Yh e) (I.ok.cab x c hfn hc)))).trans e1⟩
  .obtain⟨o',e1⟩:=I.base.there b o e hx;exact⟨o',(hs.2 b (Yo (Ym (Yh e) (I.ok.cab x c hfn hc)))).trans e1⟩
  .by_cases hj:j=i
   .subst hj;rw[hi]at e1;cases e1;rw[Y1w hiσ]at e2;cases e2;exact⟨u,r,.inr ⟨.inl hk,c,hc,hc'⟩⟩
   .rw[Y1L (YR hj)]at e2;obtain⟨u',r',q⟩:=hl j y v' e1 e2 e3;refine⟨u',r',?_⟩;rcases q with q | ⟨k,c',e,z'⟩
    .exact .inl q
    .refine .inr ⟨k,c',e,z'.sameBut hs ?_⟩;rintro rfl;exact hj (Yz3 hN e1 (I.ok.inj _ _ _ e hc ▸ hi))
  .by_cases hcc:c'=c
   .subst hcc;exact⟨_,hc'⟩
   .obtain⟨w2,z2⟩:=I.cell y c' e;exact⟨w2,z2.sameBut hs hcc⟩
  .obtain⟨e,n,ne,nf,d⟩:=I.pin p hp;refine⟨(hs.2 p.1 ?_).trans e,n,ne,nf,d⟩;intro q;rw[q,hoc]at e;have q':oc=p.2:=Yd e
   exact d w' (by rwa[<- q'])
theorem Zq2{M:Model}{A:Around}{E:Ae}{i:Nat}{x:Str}{v:V}{u:Value}{Q:Unit->Shared->Prop}(I:Inv X pins σ H s)(hN:X.N.Nodup)(hi:X.N[i]?=some x)(hx:Loc X.env.scope x)(r:RelV v u)
  (h:∀ s',Inv X pins (σ.set i (some v)) H s'->Q () s') (hf:X.fn x=true\/X.env.scope.names.lookup x=some .local:=by first | exact .inl rfl | exact .inr rfl | assumption):wpAny M A (storeName X.env x u) Q E s :=
 ZZ3 I hN hi hx r (λs' I' _=>h s' I') hf
theorem Inv.call'{s':Shared}{ch:List Addr}(I:Inv X pins σ H s)(ho:s'.os=s.os)(u:Un (frs X.stack) ch H H' s.heap s'.heap)(hok:HOk X.prog X.w H' s'.heap)(hg:AllBare s'.gens)
  (hch:∀ b∈ch,(b∈X.ex\/X.s₀.heap.objs.size<=b)/\b≠X.env.locals/\(∀ x c,X.env.cells.lookup x=some c->c≠b)/\∀ p∈X.pn++pins,p.1≠b):Inv X pins σ H' s':=by
 obtain⟨h',g',d',t',o'⟩:=s';have e:o'=s.os:=ho
 subst e;exact I.call (g':=g') (t':=t') (d':=d') u hok hg hch
end
abbrev XK:=Value->Option Addr->Hp->Prop
abbrev St:=List (Option V)
abbrev VK:=V->Hp->Prop
abbrev TE:=St->Hp->VK->Prop
abbrev TT:=St->Hp->(Bool->Hp->Prop)->Prop
abbrev TA:=St->Hp->(List V->Hp->Prop)->Prop
structure Ends where
 nx:St->Hp->Prop
 rt:VK
 bk:St->Hp->Prop:=λ_ _=>False
 ct:St->Hp->Prop:=λ_ _=>False
abbrev TS:=Ends->St->Hp->Prop
def EP(X:Cx)(pins:List (Addr × Obj))(σ:St)(Q:VK)(u:Value)(s':Shared):Prop:=∃ v H',Inv X pins σ H' s'/\RelV v u/\Q v H'
def TP(X:Cx)(pins:List (Addr × Obj))(σ:St)(Q:Bool->Hp->Prop)(b:Bool)(s':Shared):Prop:=∃ H',Inv X pins σ H' s'/\Q b H'
def AP(X:Cx)(pins:List (Addr × Obj))(σ:St)(Q:List V->Hp->Prop)(us:Ag)(s':Shared):Prop:=∃ vs H',Inv X pins σ H' s'/\Vals vs us/\Q vs H'
def SP(X:Cx)(pins:List (Addr × Obj))(D:Ends)(f:Flow)(s':Shared):Prop :=
 match f with
 | .next=>∃ σ' H',Inv X pins σ' H' s'/\D.nx σ' H'
 | .brk=>∃ σ' H',Inv X pins σ' H' s'/\D.bk σ' H'
 | .cont=>∃ σ' H',Inv X pins σ' H' s'/\D.ct σ' H'
 | .ret u=>∃ v σ' H',Inv X pins σ' H' s'/\RelV v u/\D.rt v H'
def PE(X:Cx)(e:Expr)(t:TE):Prop :=
 ∀(pins:List (Addr × Obj)) (s:Shared) (σ:St) (H:Hp) (Q:VK),Inv X pins σ H s->t σ H Q->wpAny (model X.prog X.w) X.A (eval e X.env) (EP X pins σ Q) X.xe s
def PT(X:Cx)(e:Expr)(t:TT):Prop :=
 ∀(pins:List (Addr × Obj)) (s:Shared) (σ:St) (H:Hp) (Q:Bool->Hp->Prop),Inv X pins σ H s->t σ H Q->wpAny (model X.prog X.w) X.A (isTrue e X.env (eval e X.env)) (TP X pins σ Q) X.xe s
def PW(X:Cx)(e:Expr)(t:TT):Prop :=
 ∀(whole:Sem Value) (pins:List (Addr × Obj)) (s:Shared) (σ:St) (H:Hp) (Q:Bool->Hp->Prop),Inv X pins σ H s->t σ H Q->wpAny (model X.prog X.w) X.A (isTrue e X.env whole) (TP X pins σ Q) X.xe s
theorem PW.pt{X:Cx}{e:Expr}{t:TT}(h:PW X e t):PT X e t:=h _
def PA(X:Cx)(es:List Expr)(t:TA):Prop :=
 ∀(pos:Pos) (pins:List (Addr × Obj)) (s:Shared) (σ:St) (H:Hp) (Q:List V->Hp->Prop),Inv X pins σ H s->t σ H Q->wpAny (model X.prog X.w) X.A (spliced (backTo pos (starEach es X.env))) (AP X pins σ Q) X.xe s
def PS(X:Cx)(st:Stmt)(t:TS):Prop :=
 ∀(pins:List (Addr × Obj)) (s:Shared) (σ:St) (H:Hp) (D:Ends),Inv X pins σ H s->t D σ H->wpAny (model X.prog X.w) X.A (exec st X.env) (SP X pins D) X.xe s
def PSs(X:Cx)(st:List Stmt)(t:TS):Prop :=
 ∀(pins:List (Addr × Obj)) (s:Shared) (σ:St) (H:Hp) (D:Ends),Inv X pins σ H s->t D σ H->wpAny (model X.prog X.w) X.A (execs st X.env) (SP X pins D) X.xe s
theorem thn{α:Type}{t:Sem α}{Q Q':α->Shared->Prop}{M:Model}{A:Around}{E:Ae}{s:Shared}(h:wpAny M A t Q E s)(hQ:∀ a s,Q a s->Q' a s):wpAny M A t Q' E s:=Y0x h hQ λ_ _ x=>x
section
variable{X:Cx}
def tVar(i:Nat):TE:=λσ H Q=>∃ v,σ[i]?=some (some v)/\Q v H
def tC(v:V):TE:=λ_ H Q=>Q v H
theorem ZD12 {i:Nat} {x:Str} {pos:Pos} (hN:X.N[i]?=some x) (hv:Vis X.env.scope x) (hd:(x == ("__debug__":Str))=false:=by decide) (hcd:(x == ("__classdict__":Str))=false:=by decide):PE X (.Name x pos) (tVar i):=by
 intro pins s σ H Q I h;obtain⟨v,e,h⟩:=h;obtain⟨m,hn,hl⟩:=I.loc;obtain⟨u,r,l⟩:=hl i x v hN e hv;have fin:EP X pins σ Q u s:=⟨v,H,I,r,h⟩
 rcases l with ⟨hk,hm⟩ | ⟨hk,c,hc,hcell⟩
 .exact wpAny_Name (wpAny_loadName_local I.ok.kind hk hn hm fin) hd
 .rcases hk with hk | hk
  .exact wpAny_Name (wpAny_loadName_cell I.ok.kind hk hc hcell fin) hd
  .exact wpAny_Name (wpAny_loadName_free I.ok.kind hk hc hcell fin hcd) hd
theorem Zz8{i j pos}:PE X (.Constant (.int i) j pos) (tC (.int i)):=λ_ _ _ H _ I h=>wpAny_Constant_int ⟨.int i,H,I.tok _,⟨_,rfl⟩,h⟩
theorem ZT10{b j pos}:PE X (.Constant (.bool b) j pos) (tC (.bl b)):=λ_ _ _ H _ I h=>Constant_bool ⟨.bl b,H,I,rfl,h⟩
theorem Zc7{j pos}:PE X (.Constant .none j pos) (tC .non):=λ_ _ _ H _ I h=>Constant_none ⟨.non,H,I,rfl,h⟩
theorem ZU{x j pos}:PE X (.Constant (.str x) j pos) (tC (.str x)):=λ_ _ _ H _ I h=>Calls.Constant_str ⟨.str x,H,I.tok _,⟨_,rfl⟩,h⟩
def Gl(X:Cx)(x:Str):Prop:=X.env.kindOf x=some .globalImplicit
theorem Zz73{E:Ae}{pins:List (Addr × Obj)}{s:Shared}{σ:St}{H:Hp}{x:Str}{u:Value}{pos:Pos}{Q:Ae}(I:Inv X pins σ H s)(hg:Gl X x)(hm:X.mg x=some u)(h:Q u s)
  (hd:(x == ("__debug__":Str))=false:=by decide):wpAny (model X.prog X.w) X.A (eval (.Name x pos) X.env) Q E s :=
 Yy28 I.ok.kind hg (Calls.loadGlobal_global (by rw[I.ok.glob];exact I.mod.glob.keeps I.bk) hm h) hd
theorem Zz62{E:Ae}{pins:List (Addr × Obj)}{s:Shared}{σ:St}{H:Hp}{x:Str}{u:Value}{pos:Pos}{Q:Ae}(I:Inv X pins σ H s)(hg:Gl X x)(hm:X.mg x=none)(hv:bootBuiltins x=some u)(h:Q u s)
  (hn:x≠"__name__":=by decide) (hd:(x == ("__debug__":Str))=false:=by decide):wpAny (model X.prog X.w) X.A (eval (.Name x pos) X.env) Q E s:=by obtain⟨mb,h1,h2⟩:=I.mod.blt;exact Yy28 I.ok.kind hg (Calls.loadGlobal_builtin (by rw[I.ok.glob];exact I.mod.glob.keeps I.bk) hm (by rw[I.ok.blt];exact h1.keeps I.bk) ((h2 x hn).trans hv) h) hd
theorem Zz12 {x:Str} {v:V} {u:Value} {pos:Pos} (hg:Gl X x) (hm:X.mg x=some u) (r:RelV v u) (hd:(x == ("__debug__":Str))=false:=by decide):PE X (.Name x pos) (tC v) :=
 λ_ _ _ H _ I h=>Zz73 I hg hm ⟨v,H,I,r,h⟩ hd
theorem ZS10 {x:Str} {v:V} {u:Value} {pos:Pos} (hg:Gl X x) (hm:X.mg x=none) (hv:bootBuiltins x=some u) (r:RelV v u) (hn:x≠"__name__":=by decide) (hd:(x == ("__debug__":Str))=false:=by decide):PE X (.Name x pos) (tC v) :=
 λ_ _ _ H _ I h=>Zz62 I hg hm hv ⟨v,H,I,r,h⟩ hn hd
variable{a b:Expr}{ta tb:TE}{pos:Pos}
def tB(t:TE):TT:=λσ H Q=>t σ H λx H1=>∃ c,x=.bl c/\Q c H1
theorem ZE5{e:Expr}{t:TE}(h:PE X e t)(he:∀ whole,isTrue e X.env whole=(do let v <- whole;standAt e.pos;holding [v] (truthy v)):=by intro _;rfl):PT X e (tB t):=by intro pins s σ H Q I hw;refine isTrue_plain (thn (h pins s σ H _ I hw) λv s1 ⟨x,H1,I1,r1,q1⟩=>?_) (he _);obtain⟨d,rfl,q⟩:=q1;cases r1;exact Y0N ⟨H1,I1,q⟩
variable{tA tB':TT}{rest:List Expr}
def tAnd(t u:TT):TT:=λσ H Q=>t σ H λc H1=>if c=true then u σ H1 Q else Q false H1
def tOr(t u:TT):TT:=λσ H Q=>t σ H λc H1=>if c=true then Q true H1 else u σ H1 Q
def tNot(t:TT):TT:=λσ H Q=>t σ H λc H1=>Q (!c) H1
theorem ZZ7(ha:PT X a tA):PW X (.BoolOp .And [a] pos) tA:=by
 intro wh pins s σ H Q I h;refine isTrue_and (thn (ha pins s σ H Q I h) λc s1 e=>?_);cases c with
 | true=>exact isTrue_and_nil e
 | false=>exact e
theorem ZI10(ha:PT X a tA):PW X (.BoolOp .Or [a] pos) tA:=by
 intro wh pins s σ H Q I h;refine isTrue_or (thn (ha pins s σ H Q I h) λc s1 e=>?_);cases c with
 | false=>exact isTrue_or_nil e
 | true=>exact e
theorem ZJ10(ha:PT X a tA)(hb:PW X (.BoolOp .And (b :: rest) pos) tB'):PW X (.BoolOp .And (a :: b :: rest) pos) (tAnd tA tB'):=by
 intro wh pins s σ H Q I h;refine isTrue_and (thn (ha pins s σ H _ I h) λc s1 hz0=>?_);obtain⟨H1,I1,q1⟩:=hz0;cases c with
 | true=>exact hb wh pins s1 σ H1 Q I1 q1
 | false=>exact⟨H1,I1,q1⟩
theorem Zz913(ha:PT X a tA)(hb:PW X (.BoolOp .Or (b :: rest) pos) tB'):PW X (.BoolOp .Or (a :: b :: rest) pos) (tOr tA tB'):=by
 intro wh pins s σ H Q I h;refine isTrue_or (thn (ha pins s σ H _ I h) λc s1 hz0=>?_);obtain⟨H1,I1,q1⟩:=hz0;cases c with
 | true=>exact⟨H1,I1,q1⟩
 | false=>exact hb wh pins s1 σ H1 Q I1 q1
theorem Zq3(ha:PT X a tA):PT X (.UnaryOp .Not a pos) (tNot tA):=by intro pins s σ H Q I h;exact isTrue_not (ha pins s σ H (λc H1=>Q (!c) H1) I h)
def Zq13(ta tb:TE):TE:=λσ H Q=>ta σ H λx H1=>∃ c,x=.bl c/\if c=true then tb σ H1 Q else Q (.bl false) H1
def Zj13(ta:TE):TE:=λσ H Q=>ta σ H λx H1=>∃ c,x=.bl c/\Q (.bl (!c)) H1
theorem ZE12{op}{t:TE}(h:PE X a t):PE X (.BoolOp op [a] pos) t:=λpins s σ H Q I hw=>BoolOp_one (h pins s σ H Q I hw)
theorem ZU10(ha:PE X a ta)(hb:PE X (.BoolOp .And (b :: rest) pos) tb):PE X (.BoolOp .And (a :: b :: rest) pos) (Zq13 ta tb):=by
 intro pins s σ H Q I h;refine BoolOp_and (thn (ha pins s σ H _ I h) λv s1 hz0=>?_);obtain⟨x,H1,I1,r1,q1⟩:=hz0;obtain⟨c,rfl,q1⟩:=q1;cases r1;refine Y0N ?_;cases c with
 | true=>exact hb pins s1 σ H1 Q I1 q1
 | false=>exact⟨.bl false,H1,I1,rfl,q1⟩
theorem ZF12(ha:PE X a ta):PE X (.UnaryOp .Not a pos) (Zj13 ta):=by intro pins s σ H Q I h;refine UnaryOp_ (thn (ha pins s σ H _ I h) λv s1 hz0=>?_);obtain⟨x,H1,I1,r1,q1⟩:=hz0;obtain⟨c,rfl,q1⟩:=q1;cases r1;exact not_of (Y0N ⟨.bl (!c),H1,I1,rfl,q1⟩)
def tIf(t:TT)(ta tb:TE):TE:=λσ H Q=>t σ H λc H1=>if c=true then ta σ H1 Q else tb σ H1 Q
theorem Zv3{c:Expr}(hc:PT X c tA)(ha:PE X a ta)(hb:PE X b tb):PE X (.IfExp c a b pos) (tIf tA ta tb):=by
 intro pins s σ H Q I h;refine wpAny_IfExp (thn (hc pins s σ H _ I h) λd s1 hz0=>?_);obtain⟨H1,I1,q1⟩:=hz0;cases d with
 | true=>exact ha pins s1 σ H1 Q I1 q1
 | false=>exact hb pins s1 σ H1 Q I1 q1
end
def SqL(K:Ad)(H:Hp)(a:Addr)(xs:List V):Prop :=
 Rd H a (.lst xs) \/
  ∃(o:Obj) (its:Array Value) (n:Nat),K.lookup a=some o/\o.cls=.type "list"/\o.dict=none/\o.data=.seq its n/\its.size<=sizeLine/\Vals xs its.toList
def SqT(K:Ad)(H:Hp)(a:Addr)(xs:List V):Prop :=
 Rd H a (.tup xs) \/
  ∃(o:Obj) (its:Array Value) (n:Nat),K.lookup a=some o/\o.cls=.type "tuple"/\o.data=.seq its n/\its.size<=sizeLine/\Vals xs its.toList
def absV:Value->Option V
 | .none=>some .non
 | .bool b=>some (.bl b)
 | .int i _=>some (.int i)
 | .str x _=>some (.str x)
 | .bytes b _=>some (.byt b)
 | .float b _=>some (.flt b)
 | .ref a=>some (.ref a)
 | .type n=>some (.ty n)
 | _=>none
theorem RelV.abs{x:V}{u:Value}(r:RelV x u):absV u=some x:=by
 cases x with
 | non=>cases r;rfl
 | bl _=>cases r;rfl
 | int _=>obtain⟨t,rfl⟩:=r;rfl
 | str _=>obtain⟨t,rfl⟩:=r;rfl
 | byt _=>obtain⟨t,rfl⟩:=r;rfl
 | flt _=>obtain⟨t,rfl⟩:=r;rfl
 | ref _=>cases r;rfl
 | ty _=>cases r;rfl
theorem RelV.inj{x y:V}{u:Value}(r:RelV x u)(q:RelV y u):x=y:=Yd (r.abs.symm.trans q.abs)
theorem Vals.inj:∀ {xs ys:List V} {us:Ag},Vals xs us->Vals ys us->xs=ys
 | _,_,_,.nil,.nil=>rfl
 | _,_,_,.cons r t,.cons r' t'=>by rw[r.inj r',Vals.inj t t']
section
variable{X:Cx}{pins:List (Addr × Obj)}{σ:St}{H:Hp}{s:Shared}{a:Addr}{xs ys:List V}
theorem SqL.of{K:Ad}(h:H a=some (.lst xs)):SqL K H a xs:=.inl (.inl h)
theorem SqT.of{K:Ad}(h:H a=some (.tup xs)):SqT K H a xs:=.inl (.inl h)
theorem Inv.list(I:Inv X pins σ H s)(h:SqL X.K H a xs):∃ its:Ag,Vals xs its/\PlainL s.heap a its.toArray/\xs.length<=sizeLine:=by
 rcases h with h | ⟨o,its,n,hk,hc,hd,hs,hz,r⟩
 .obtain⟨z,its,n,r,e⟩:=h.ok I.hok;exact⟨its,r,⟨_,n,e,rfl,rfl,rfl⟩,z⟩
 .refine⟨its.toList,r,⟨o,n,I.kIn a o hk,hc,hd,by simpa using hs⟩,?_⟩;have e:=r.length
  simp only [YA]at e;omega
theorem Inv.tuple(I:Inv X pins σ H s)(h:SqT X.K H a xs):∃ its:Ag,Vals xs its/\IsTup s.heap a its.toArray/\xs.length<=sizeLine:=by
 rcases h with h | ⟨o,its,n,hk,hc,hs,hz,r⟩
 .obtain⟨z,its,r,p⟩:=h.ok I.hok;exact⟨its,r,p,z⟩
 .refine⟨its.toList,r,⟨o,I.kIn a o hk,hc,n,by simpa using hs⟩,?_⟩;have e:=r.length
  simp only [YA]at e;omega
theorem Inv.list_inj(I:Inv X pins σ H s)(h:SqL X.K H a xs)(h':SqL X.K H a ys):xs=ys:=by
 obtain⟨its,r,⟨o,n,e,_,_,d⟩,_⟩:=I.list h;obtain⟨its',r',⟨o',n',e',_,_,d'⟩,_⟩:=I.list h';rw[e]at e';cases e';rw[d]at d';injection d' with d1 _
 have:its=its':=by simpa using YZ Array.toList d1
 subst this;exact r.inj r'
theorem Inv.tuple_inj(I:Inv X pins σ H s)(h:SqT X.K H a xs)(h':SqT X.K H a ys):xs=ys:=by
 obtain⟨its,r,⟨o,e,_,n,d⟩,_⟩:=I.tuple h;obtain⟨its',r',⟨o',e',_,n',d'⟩,_⟩:=I.tuple h';rw[e]at e';cases e';rw[d]at d';injection d' with d1 _
 have:its=its':=by simpa using YZ Array.toList d1
 subst this;exact r.inj r'
end
abbrev Cx.wish(X:Cx)(E:Ae):Cx:={ X with xe:=E }
abbrev Cx.nox(X:Cx):Cx:=X.wish λ_ _=>False
theorem Cx.Ok.wish{X:Cx}(ok:X.Ok)(E:Ae):(X.wish E).Ok :=
 ⟨ok.mod,ok.kind,ok.glob,ok.blt,ok.above,ok.inj,ok.has,ok.cab,ok.hd,ok.frames,ok.stk,ok.exf,ok.bs,ok.bsz,ok.noex,ok.exfs,ok.funs,ok.frf⟩
theorem Cx.Ok.unwish{X:Cx}{E:Ae}(ok:(X.wish E).Ok):X.Ok :=
 ⟨ok.mod,ok.kind,ok.glob,ok.blt,ok.above,ok.inj,ok.has,ok.cab,ok.hd,ok.frames,ok.stk,ok.exf,ok.bs,ok.bsz,ok.noex,ok.exfs,ok.funs,ok.frf⟩
section
variable{X:Cx}{pins:List (Addr × Obj)}{σ:St}{H:Hp}{s:Shared}{E:Ae}
theorem Inv.wish(I:Inv X pins σ H s)(E:Ae):Inv (X.wish E) pins σ H s:=⟨I.ok.wish E,I.os,I.bare,I.base,I.loc,I.cell,I.free,I.freeC,I.pin,I.hok,I.len⟩
theorem Inv.unwish(I:Inv (X.wish E) pins σ H s):Inv X pins σ H s:=⟨I.ok.unwish,I.os,I.bare,I.base,I.loc,I.cell,I.free,I.freeC,I.pin,I.hok,I.len⟩
theorem SP.unwish{D:Ends}{f:Flow}{s':Shared}(h:SP (X.wish E) pins D f s'):SP X pins D f s':=by
 cases f with
 | next=>obtain⟨σ',H',I,q⟩:=h;exact⟨σ',H',I.unwish,q⟩
 | brk=>obtain⟨σ',H',I,q⟩:=h;exact⟨σ',H',I.unwish,q⟩
 | cont=>obtain⟨σ',H',I,q⟩:=h;exact⟨σ',H',I.unwish,q⟩
 | ret u=>obtain⟨v,σ',H',I,r,q⟩:=h;exact⟨v,σ',H',I.unwish,r,q⟩
theorem PSs.nox{st:List Stmt}{t:TS}(h:PSs X.nox st t):PSs X st t:=λpins s σ H D I hw =>
 Y0x (h pins s σ H D (I.wish _) hw) (λ_ _ q=>q.unwish) λ_ _ z=>False.elim z
end
section
variable{X:Cx}{st:Stmt}{rest:List Stmt}{t u:TS}{e:Expr}{te:TE}{pos:Pos}
def Zk13:TS:=λD σ H=>D.nx σ H
def tSeq(t u:TS):TS:=λD σ H=>t { D with nx:=u D } σ H
theorem Zm:PSs X [] Zk13:=λ_ _ σ H _ I h=>Yy26 ⟨σ,H,I,h⟩
theorem Zz2(h1:PS X st t)(h2:PSs X rest u):PSs X (st :: rest) (tSeq t u):=by
 intro pins s σ H D I h;refine wpAny_execs_cons (thn (h1 pins s σ H { D with nx:=u D } I h) λf s1 q=>?_);cases f with
 | next =>
  obtain⟨σ',H',I',q⟩:=q;exact h2 pins s1 σ' H' D I' q
 | ret v=>exact q
 | brk=>exact q
 | cont=>exact q
theorem Zz6(h1:PS X st t):PSs X [st] t:=by
 intro pins s σ H D I h;refine wpAny_execs_cons (thn (h1 pins s σ H D I h) λf s1 q=>?_);cases f with
 | next=>exact Yy26 q
 | ret v=>exact q
 | brk=>exact q
 | cont=>exact q
theorem Inv.quiet{pins:List (Addr × Obj)}{σ:St}{H:Hp}{s:Shared}(I:Inv X pins σ H s):interactive X.env=false:=by simp[interactive,I.ok.kind]
def Zn13(te:TE):TS:=λD σ H=>te σ H λ_ H1=>D.nx σ H1
theorem ZC(he:PE X e te)(hs:swapsWith e none pos.line X.env=pure false:=by rfl):PS X (.Expr e pos) (Zn13 te):=by intro pins s σ H D I h;exact wpAny_Expr_any (thn (he pins s σ H _ I h) λv s1 ⟨x,H1,I1,r1,q1⟩=>⟨σ,H1,I1,q1⟩) I.quiet hs
def tRet(te:TE):TS:=λD σ H=>te σ H D.rt
theorem Zk(he:PE X e te):PS X (.Return (some e) pos) (tRet te):=by intro pins s σ H D I h;exact wpAny_Return_some (thn (he pins s σ H _ I h) λv s1 ⟨x,H1,I1,r1,q1⟩=>⟨x,σ,H1,I1,r1,q1⟩)
def tIfS(c:TT)(t u:TS):TS:=λD σ H=>c σ H λb H1=>if b=true then t D σ H1 else u D σ H1
theorem Ze1{c:Expr}{a b:List Stmt}{tc:TT}(hc:PT X c tc)(ha:PSs X a t)(hb:PSs X b u):PS X (.If c a b pos) (tIfS tc t u):=by
 intro pins s σ H D I h;refine wpAny_If (thn (hc pins s σ H _ I h) λd s1 hz0=>?_);obtain⟨H1,I1,q1⟩:=hz0;cases d with
 | true=>exact ha pins s1 σ H1 D I1 q1
 | false=>exact hb pins s1 σ H1 D I1 q1
def Zf12:TS:=λ_ _ _=>False
theorem Zt2:PS X st Zf12:=λ_ _ _ _ _ _ h=>h.elim
end
abbrev TG:=V->St->Hp->(St->Hp->Prop)->Prop
abbrev TGs:=List V->St->Hp->(St->Hp->Prop)->Prop
def PG(X:Cx)(target:Expr)(t:TG):Prop :=
 ∀(pins:List (Addr × Obj)) (s:Shared) (σ:St) (H:Hp) (v:V) (u:Value) (Q:St->Hp->Prop),Inv X pins σ H s->RelV v u->t v σ H Q ->
  wpAny (model X.prog X.w) X.A (assign target X.env u) (λ_ s'=>∃ σ' H',Inv X pins σ' H' s'/\Q σ' H') X.xe s
def PGs(X:Cx)(ts:List Expr)(t:TGs):Prop :=
 ∀(pins:List (Addr × Obj)) (s:Shared) (σ:St) (H:Hp) (vs:List V) (us:Ag) (Q:St->Hp->Prop),Inv X pins σ H s->Vals vs us->t vs σ H Q ->
  wpAny (model X.prog X.w) X.A (assignInOrder ((assignEach ts X.env).map (·.2)) us) (λ_ s'=>∃ σ' H',Inv X pins σ' H' s'/\Q σ' H') X.xe s
abbrev TSet:=V->V->V->Hp->(Hp->Prop)->Prop
def PSet(X:Cx)(t:TSet):Prop :=
 ∀(pins:List (Addr × Obj)) (s:Shared) (σ:St) (H:Hp) (o i v:V) (ov iv u:Value) (Q:Hp->Prop),Inv X pins σ H s->RelV o ov->RelV i iv->RelV v u->t o i v H Q ->
  wpAny (model X.prog X.w) X.A (setItem ov iv u) (λ_ s'=>∃ H',Inv X pins σ H' s'/\Q H') X.xe s
abbrev TIp:=V->V->Hp->VK->Prop
def PIp(X:Cx)(op:Operator)(t:TIp):Prop :=
 ∀(pins:List (Addr × Obj)) (s:Shared) (σ:St) (H:Hp) (x y:V) (v u:Value) (Q:VK),Inv X pins σ H s->RelV x v->RelV y u->t x y H Q ->
  wpAny (model X.prog X.w) X.A (inplaceOp op v u) (EP X pins σ Q) X.xe s
section
variable{X:Cx}{pos:Pos}
def Zs8(i:Nat):TG:=λv σ H Q=>Q (σ.set i (some v)) H
theorem Zc{i:Nat}{x:Str}(hN:X.N.Nodup)(hi:X.N[i]?=some x)(hx:Loc X.env.scope x)(hf:X.fn x=true\/X.env.scope.names.lookup x=some .local:=by first | exact .inl rfl | exact .inr rfl | assumption):PG X (.Name x pos) (Zs8 i):=by intro pins s σ H v u Q I r h;exact wpAny_assign_Name (Zq2 I hN hi hx r (λs' I'=>⟨_,H,I',h⟩) hf)
def gNil:TGs:=λvs σ H Q=>vs=[]/\Q σ H
def Ze13(t:TG)(u:TGs):TGs:=λvs σ H Q=>∃ v r,vs=v :: r/\t v σ H λσ' H'=>u r σ' H' Q
theorem Zz41:PGs X [] gNil:=by intro pins s σ H vs us Q I r h;obtain⟨e,h⟩:=h;subst e;cases r;exact assignInOrder_nil ⟨σ,H,I,h⟩
theorem Zl{e:Expr}{es:List Expr}{t:TG}{u:TGs}(h1:PG X e t)(h2:PGs X es u)
  (hs:(assignEach (e :: es) X.env).map (·.2)=assign e X.env :: (assignEach es X.env).map (·.2):=by rfl):PGs X (e :: es) (Ze13 t u):=by
 intro pins s σ H vs us Q I r h;obtain⟨v,vr,e1,h⟩:=h;subst e1;cases r with
 | cons r rr =>
  rw[hs];refine assignInOrder_cons (thn (h1 pins s σ H _ _ _ I r h) λ_ s1 hz0=>?_);obtain⟨σ1,H1,I1,q1⟩:=hz0;exact h2 pins s1 σ1 H1 _ _ Q I1 rr q1
def gTup(K:Ad)(n:Nat)(t:TGs):TG:=λv σ H Q=>∃ a xs,v=.ref a/\SqT K H a xs/\xs.length=n/\t xs σ H Q
theorem ZC12{es:List Expr}{k:Nat}{t:TGs}{n:Nat}(hc:X.calm=true)(h:PGs X es t)
  (hn:(assignEach es X.env).length=n:=by rfl) (hst:(assignEach es X.env).findIdx? (·.1)=none:=by rfl):PG X (.Tuple es k pos) (gTup X.K n t):=by
 intro pins s σ H v u Q I r hw;obtain⟨a,xs,e1,hq,hl,hw⟩:=hw;subst e1;cases r;obtain⟨its,rv,ht,hz⟩:=I.tuple hq;refine assign_Tuple_tuple (I.ok.hd hc) ht (by simp[hn,<- hl,rv.length]) hst λh' hx=>?_;have I1:Inv X pins σ H { s with heap:=h' }:=I.kept (t':=s.toks) λb o e=>hx b o (Yo (Yh e)) e
 exact h pins _ σ H xs _ Q I1 (by simpa using rv) hw
def gSub(to ti:TE)(t:TSet):TG:=λv σ H Q=>to σ H λo H1=>ti σ H1 λi H2=>t o i v H2 λH3=>Q σ H3
theorem ZP10{o i:Expr}{to ti:TE}{t:TSet}(ho:PE X o to)(hi:PE X i ti)(hs:PSet X t)
  (ha:∀ v,assign (.Subscript o i pos) X.env v=(do
   let ov <- holding [v] (eval o X.env)
   let iv <- holding [v,ov] (eval i X.env)
   standAt pos
   holding [v,ov,iv] (setItem ov iv v)
   release [v,ov,iv] []):=by intro _;rfl):PG X (.Subscript o i pos) (gSub to ti t):=by intro pins s σ H v u Q I r h;rw[ha];refine Yy0 (Y0D (thn (ho pins s σ H _ I h) λov s1 hz0=>?_));obtain⟨x,H1,I1,r1,q1⟩:=hz0;refine Yy0 (Y0D (thn (hi pins s1 σ H1 _ I1 q1) λiv s2 hz0=>?_));obtain⟨y,H2,I2,r2,q2⟩:=hz0;refine Yy0 (wpAny_standAt (Yy0 (Y0D (thn (hs pins s2 σ H2 x y v ov iv u _ I2 r1 r2 r q2) λ_ s3 hz0=>?_))));obtain⟨H3,I3,q3⟩:=hz0;exact wpAny_release ⟨σ,H3,I3,q3⟩
def tAsg(te:TE)(g:TG):TS:=λD σ H=>te σ H λx H1=>g x σ H1 D.nx
theorem Zz39{tg e:Expr}{te:TE}{g:TG}(he:PE X e te)(hg:PG X tg g)(hs:swapsWithSole [tg] e pos.line X.env=pure false:=by rfl)(hw:swappedStores [tg] e X.env=pure none:=by rfl)
  (h1:(assignEach [tg] X.env).map (·.2)=[assign tg X.env]:=by rfl):PS X (.Assign [tg] e pos) (tAsg te g):=by intro pins s σ H D I h;refine wpAny_Assign_stores (thn (he pins s σ H _ I h) λv s1 hz0=>?_) hs hw;obtain⟨x,H1,I1,r1,q1⟩:=hz0;rw[h1];exact thn (hg pins s1 σ H1 x v _ I1 r1 q1) λ_ s2 q=>q
theorem Ze{i:Nat}{x:Str}{e:Expr}{te:TE}{pos':Pos}(hN:X.N.Nodup)(hi:X.N[i]?=some x)(hx:Loc X.env.scope x)(he:PE X e te)(hs:swapsWith e (some (.Name x pos')) pos.line X.env=pure false:=by rfl)(hf:X.fn x=true\/X.env.scope.names.lookup x=some .local:=by first | exact .inl rfl | exact .inr rfl | assumption) :
  PS X (.Assign [.Name x pos'] e pos) (tAsg te (Zs8 i)):=by intro pins s σ H D I h;refine wpAny_Assign_Name (thn (he pins s σ H _ I h) λv s1 hz0=>?_) hs;obtain⟨y,H1,I1,r1,q1⟩:=hz0;exact Zq2 I1 hN hi hx r1 (λs2 I2=>⟨_,H1,I2,q1⟩) hf
def tAug(i:Nat)(te:TE)(ti:TIp):TS:=λD σ H=>∃ x,σ[i]?=some (some x)/\te σ H λy H1=>ti x y H1 λz H2=>D.nx (σ.set i (some z)) H2
theorem Zv12{i:Nat}{x:Str}{e:Expr}{te:TE}{op:Operator}{ti:TIp}{pos':Pos}(hN:X.N.Nodup)(hi:X.N[i]?=some x)(hx:Loc X.env.scope x)(he:PE X e te)(ho:PIp X op ti)(hf:X.fn x=true\/X.env.scope.names.lookup x=some .local:=by first | exact .inl rfl | exact .inr rfl | assumption) :
  PS X (.AugAssign (.Name x pos') op e pos) (tAug i te ti):=by
 intro pins s σ H D I h;obtain⟨v,e1,h⟩:=h;obtain⟨m,hn,hl⟩:=I.loc;have vis:Vis X.env.scope x:=by rcases hx with k | k;exact .inl k;exact .inr (.inl k)
 obtain⟨u,r,l⟩:=hl i x v hi e1 vis;refine wpAny_AugAssign_Name ?_;have go:wpAny (model X.prog X.w) X.A (eval e X.env) (λw s₂=>wpAny (model X.prog X.w) X.A (inplaceOp op u w) (λr s₃=>wpAny (model X.prog X.w) X.A (storeName X.env x r) (λ_=>SP X pins D .next) X.xe s₃) X.xe s₂) X.xe s:=by refine thn (he pins s σ H _ I h) λw s1 hz0=>?_;obtain⟨y,H1,I1,r1,q1⟩:=hz0;refine thn (ho pins s1 σ H1 v y u w _ I1 r r1 q1) λz s2 hz0=>?_;obtain⟨zv,H2,I2,r2,q2⟩:=hz0;exact Zq2 I2 hN hi hx r2 (λs3 I3=>⟨_,H2,I3,q2⟩) hf
 rcases l with ⟨hk,hm⟩ | ⟨hk,c,hc,hcell⟩
 .exact wpAny_loadName_local I.ok.kind hk hn hm go
 .rcases hk with hk | hk
  .exact wpAny_loadName_cell I.ok.kind hk hc hcell go
  .rcases hx with k | k
   .have:X.env.scope.names.lookup x=some .free:=hk
    rw[k]at this;cases this
   .have:X.env.scope.names.lookup x=some .free:=hk
    rw[k]at this;cases this
def Zp13(to ti te:TE)(tget:V->V->Hp->VK->Prop)(tip:TIp)(tset:TSet):TS:=λD σ H=>to σ H λo H1=>ti σ H1 λi H2=>tget o i H2 λx H3=>te σ H3 λy H4=>tip x y H4 λz H5=>tset o i z H5 λH6=>D.nx σ H6
def PGet(X:Cx)(t:V->V->Hp->VK->Prop):Prop :=
 ∀(pins:List (Addr × Obj)) (s:Shared) (σ:St) (H:Hp) (o i:V) (ov iv:Value) (Q:VK),Inv X pins σ H s->RelV o ov->RelV i iv->t o i H Q ->
  wpAny (model X.prog X.w) X.A (getItem ov iv) (EP X pins σ Q) X.xe s
theorem Zz34{o i e:Expr}{to ti te:TE}{tget:V->V->Hp->VK->Prop}{tip:TIp}{tset:TSet}{op:Operator}{tpos:Pos}(ho:PE X o to)(hi:PE X i ti)(hg:PGet X tget)(he:PE X e te)(hp:PIp X op tip)(hs:PSet X tset)
  (ha:∀ ov iv new,augStore i ov iv new=(do holding [new,ov,iv] (setItem ov iv new);release [new,ov,iv] [];pure .next):=by intros;rfl):PS X (.AugAssign (.Subscript o i tpos) op e pos) (Zp13 to ti te tget tip tset):=by intro pins s σ H D I h;refine wpAny_AugAssign_SubscriptAny (thn (ho pins s σ H _ I h) λov s1 hz0=>?_) ha;obtain⟨x1,H1,I1,r1,q1⟩:=hz0;refine thn (hi pins s1 σ H1 _ I1 q1) λiv s2 hz0=>?_;obtain⟨x2,H2,I2,r2,q2⟩:=hz0;refine thn (hg pins s2 σ H2 x1 x2 ov iv _ I2 r1 r2 q2) λold s3 hz0=>?_;obtain⟨x3,H3,I3,r3,q3⟩:=hz0;refine thn (he pins s3 σ H3 _ I3 q3) λv s4 hz0=>?_;obtain⟨x4,H4,I4,r4,q4⟩:=hz0;refine thn (hp pins s4 σ H4 x3 x4 old v _ I4 r3 r4 q4) λnew s5 hz0=>?_;obtain⟨x5,H5,I5,r5,q5⟩:=hz0;exact thn (hs pins s5 σ H5 x1 x2 x5 ov iv new _ I5 r1 r2 r5 q5) λ_ s6 ⟨H6,I6,q6⟩=>⟨σ,H6,I6,q6⟩
def ipI(f:Int->Int->Int):TIp:=λx y H Q=>∃ i j,x=.int i/\y=.int j/\Q (.int (f i j)) H
theorem Zn11:PIp X .Add (ipI λi j=>i+j):=by intro pins s σ H x y v u Q I r1 r2 h;obtain⟨i,j,e1,e2,q⟩:=h;subst e1;subst e2;obtain⟨t,rfl⟩:=r1;obtain⟨t',rfl⟩:=r2;exact iadd_int ⟨.int _,H,I.tok _,⟨_,rfl⟩,q⟩
theorem Yz9:PIp X .Sub (ipI λi j=>i - j):=by intro pins s σ H x y v u Q I r1 r2 h;obtain⟨i,j,e1,e2,q⟩:=h;subst e1;subst e2;obtain⟨t,rfl⟩:=r1;obtain⟨t',rfl⟩:=r2;exact isub_int ⟨.int _,H,I.tok _,⟨_,rfl⟩,q⟩
def Zc12(c:TT)(tb:TS):TS:=λD σ H=>∃ W:Nat->St->Hp->Prop,(∃ m,W m σ H)/\∀ m σ H,W m σ H ->
 c σ H λb H1=>if b=true then ∃ N:St->Hp->Prop,(∀ σ' H',N σ' H'->∃ m',m'<m/\W m' σ' H')/\tb { D with nx:=N,ct:=N,bk:=D.nx } σ H1 else D.nx σ H1
theorem ZF5{c:Expr}{body:List Stmt}{tc:TT}{tb:TS}(hp:PassesOwn (model X.prog X.w) X.A X.env X.xe)(hc:PT X c tc)(hb:PSs X body tb):PS X (.While c body [] pos) (Zc12 tc tb):=by
 intro pins s σ H D I h;obtain⟨W,⟨m0,w0⟩,turn⟩:=h;refine wpAny_While (codeAny_whileLoop (λn s'=>∃ σ' H',Inv X pins σ' H' s'/\W n σ' H') ?_ m0 ⟨σ,H,I,w0⟩);rintro n s1 ⟨σ1,H1,I1,w1⟩;refine Y1d hp (thn (hc pins s1 σ1 H1 _ I1 (turn n σ1 H1 w1)) λb s2 hz0=>?_);obtain⟨H2,I2,q2⟩:=hz0;cases b with
 | true =>
  obtain⟨N,hN,q2⟩:=q2;rw[if_pos rfl];refine Y1d hp (thn (hb pins s2 σ1 H2 _ I2 q2) λf s3 q3=>?_);cases f with
  | next =>
   obtain⟨σ3,H3,I3,n3⟩:=q3;obtain⟨m',hm,w3⟩:=hN σ3 H3 n3;exact⟨m',hm,σ3,H3,I3,w3⟩
  | cont =>
   obtain⟨σ3,H3,I3,n3⟩:=q3;obtain⟨m',hm,w3⟩:=hN σ3 H3 n3;exact⟨m',hm,σ3,H3,I3,w3⟩
  | brk=>exact q3
  | ret v=>exact q3
 | false =>
  rw[if_neg Yq];exact Yy26 ⟨σ1,H2,I2,q2⟩
end
structure It where
 go:Nat->Hp->Prop
 yld:Nat->Hp->V->Hp->Prop
 stop:Nat->Hp->Prop
def FpOk(X:Cx)(pins:List (Addr × Obj))(H:Hp)(b:Addr):Prop :=
 H b=none/\b≠X.env.locals/\b∉X.fs/\(b∈X.ex\/X.s₀.heap.objs.size<=b)/\(∀ x c,X.env.cells.lookup x=some c->c≠b)/\∀ p∈X.pn++pins,p.1≠b
theorem Inv.fpOk{X:Cx}{pins:List (Addr × Obj)}{σ:St}{H H':Hp}{s:Shared}{b:Addr}(I:Inv X pins σ H s)(hb:s.heap.objs.size<=b)(hn:H' b=none):FpOk X pins H' b:=by
 refine⟨hn,Y0u (Ym I.lt hb),I.nofs hb,.inr (YD I.sz hb),λx c e z=>?_,λp hp z=>?_⟩
 .obtain⟨v,q⟩:=I.cell x c e;exact absurd (Ym q.lt (by rwa[z])) (Y0I _)
 .exact absurd (Ym (Yh (I.pin p hp).1) (by rwa[z])) (Y0I _)
structure Turn (P:Program) (w:World) (K:Ad) (tg:Expr) (J:It) (fp:List Addr) (it:Addr) (tn:Nat->Heap->Prop):Prop where
 mem:it∈fp
 obj:∀ i h,tn i h->∀ b∈fp,∃ o,h.get? b=some o/\∀ v,o.data≠.cell v
 keep:∀ i h h',tn i h->(∀ b∈fp,∀ o,h.get? b=some o->h'.get? b=some o)->tn i h'
 item:∀(X:Cx),X.prog=P->X.w=w->X.K=K->X.calm=true->∀(i:Nat) (pins:List (Addr × Obj)) (s:Shared) (σ:St) (H:Hp) (E:Ae),Inv X pins σ H s->(∀ b∈fp,FpOk X pins H b)->tn i s.heap->J.go i H ->
  wpAny (model P w) X.A (pyNext (.ref it)) (λr s1=>∃ u,r=some u /\
   wpAny (model P w) X.A (letOwnedTupleGo tg (.ref it) u) (λ_ s2=>∃ x H',Inv X pins σ H' s2/\RelV x u/\J.yld i H x H'/\tn (i+1) s2.heap/\∀ b∈fp,H' b=none) E s1) E s
 done:∀(X:Cx),X.prog=P->X.w=w->X.K=K->X.calm=true->∀(i:Nat) (pins:List (Addr × Obj)) (s:Shared) (σ:St) (H:Hp) (E:Ae),Inv X pins σ H s->(∀ b∈fp,FpOk X pins H b)->tn i s.heap->J.stop i H ->
  wpAny (model P w) X.A (pyNext (.ref it)) (λr s1=>r=none/\Inv X pins σ H s1) E s
 self:∀(A:Around) (i:Nat) (s:Shared) (Q:Ae) (E:Ae),tn i s.heap->Q (.ref it) s->wpAny (model P w) A (pyIter (.ref it)) Q E s
abbrev TI:=St->Hp->(It->Hp->Prop)->Prop
def PIE(X:Cx)(pins:List (Addr × Obj))(σ:St)(tg:Expr)(R:It->Hp->Prop)(itv:Value)(s2:Shared):Prop :=
 ∃(it:Addr) (fp:List Addr) (tn:Nat->Heap->Prop) (J:It) (H':Hp),itv=.ref it/\Inv X pins σ H' s2/\Turn X.prog X.w X.K tg J fp it tn/\tn 0 s2.heap/\(∀ b∈fp,FpOk X pins H' b)/\R J H'
def PI(X:Cx)(tg iter:Expr)(wi:TI):Prop :=
 ∀(pins:List (Addr × Obj)) (s:Shared) (σ:St) (H:Hp) (R:It->Hp->Prop),Inv X pins σ H s->wi σ H R ->
  wpAny (model X.prog X.w) X.A (eval iter X.env) (λv s1=>wpAny (model X.prog X.w) X.A (pyIter v) (PIE X pins σ tg R) X.xe s1) X.xe s
theorem ZV12{M:Model}{A:Around}{E:Ae}{s:Shared}{tg:Expr}{it:Addr}{u:Value}{o:Obj}{n:String}{vs:Array Value}{Q:Unit->Shared->Prop}(ho:s.heap.get? it=some o)(hc:o.cls=.type n)(hd:o.data=.fields vs)
  (hn:["enumerate","zip","dict_itemiterator","dict_reverseitemiterator","odict_iterator","itertools.zip_longest","itertools.pairwise"].contains n=false) (hQ:Q () s):wpAny M A (letOwnedTupleGo tg (.ref it) u) Q E s:=by
 unfold letOwnedTupleGo;cases tg <;> first
  | exact Yf hQ
  | (cases u <;> first
    | exact Yf hQ
    | (refine Yy0 (Y3p ho ?_)
       rw[hc,hd];show wpAny M A (if (["enumerate","zip","dict_itemiterator","dict_reverseitemiterator","odict_iterator","itertools.zip_longest","itertools.pairwise"].contains n && vs[0]? == some (rawInt _))=true then _ else _) Q E s
       rw[if_neg (by intro h;rw[hn,Bool.false_and]at h;cases h)];exact Yf hQ))
def Itl(K:Ad)(a:Addr):It :=
 ⟨λi H=>∃ xs x,SqL K H a xs/\xs[i]?=some x,λi H x H'=>H'=H/\∀ xs,SqL K H a xs->xs[i]?=some x,λi H=>∃ xs,SqL K H a xs/\xs.length<=i⟩
def Itt(K:Ad)(a:Addr):It :=
 ⟨λi H=>∃ xs x,SqT K H a xs/\xs[i]?=some x,λi H x H'=>H'=H/\∀ xs,SqT K H a xs->xs[i]?=some x,λi H=>∃ xs,SqT K H a xs/\xs.length<=i⟩
def Itr(lo:Int)(n:Nat):It:=⟨λi _=>i<n,λi H x H'=>H'=H/\x=.int (lo+i),λi _=>n<=i⟩
theorem ZV3{P:Program}{w:World}{K:Ad}{tg:Expr}(a it:Addr):Turn P w K tg (Itl K a) [it] it (λi h=>h.IsListIter it a i) where
 mem:=by simp
 obj:=λi h st b hb=>by
  have e:b=it:=by simpa using hb
  subst e;obtain⟨o,e,c,d⟩:=st;exact⟨o,e,λv z=>by rw[d]at z;cases z⟩
 keep:=λi h h' st k=>st.at λo e=>k it (by simp) o e
 item:=by
  intro X hP hw hK hc i pins s σ H E I hf st hg;subst hP hw hK;obtain⟨xs,x,hq,hx⟩:=hg;obtain⟨its,rv,p,hz⟩:=I.list hq;obtain⟨u,hu,ru⟩:=rv.get hx;obtain⟨f0,f1,f2,f3,f4,f5⟩:=hf it (by simp);refine wpAny_pyNext_list_item st p.isList (x:=u) (by simpa using hu) λh' st' sb=>?_;have I1:Inv X pins σ H { s with heap:=h' }:=I.turned (t':=s.toks) (λb o hb e=>(sb.2 b hb).trans e) f0 f1 f3 f4 f5
  obtain⟨o,e,c,d⟩:=id st';exact⟨u,rfl,ZV12 (s:={ s with heap:=h' }) e c d (by decide) ⟨x,H,I1,ru,⟨rfl,λys hy=>by rwa[I.list_inj hy hq]⟩,st',λb hb=>(hf b hb).1⟩⟩
 done:=by
  intro X hP hw hK hc i pins s σ H E I hf st hg;subst hP hw hK;obtain⟨xs,hq,hx⟩:=hg;obtain⟨its,rv,p,hz⟩:=I.list hq;obtain⟨f0,f1,f2,f3,f4,f5⟩:=hf it (by simp);have hl:=rv.length
  exact wpAny_pyNext_list_end (I.ok.hd hc) st p.isList (by simp;omega) λh' eb=>⟨rfl,I.turned (t':=s.toks) (λb o hb e=>eb b o hb e) f0 f1 f3 f4 f5⟩
 self:=λ_ _ _ _ _ st h=>wpAny_pyIter_listiter st h
theorem ZT2{P:Program}{w:World}{K:Ad}{tg:Expr}(a it:Addr):Turn P w K tg (Itt K a) [it] it (λi h=>h.IsTupleIter it a i) where
 mem:=by simp
 obj:=λi h st b hb=>by
  have e:b=it:=by simpa using hb
  subst e;obtain⟨o,e,c,d⟩:=st;exact⟨o,e,λv z=>by rw[d]at z;cases z⟩
 keep:=λi h h' st k=>st.at λo e=>k it (by simp) o e
 item:=by
  intro X hP hw hK hc i pins s σ H E I hf st hg;subst hP hw hK;obtain⟨xs,x,hq,hx⟩:=hg;obtain⟨its,rv,p,hz⟩:=I.tuple hq;obtain⟨u,hu,ru⟩:=rv.get hx;obtain⟨f0,f1,f2,f3,f4,f5⟩:=hf it (by simp);refine wpAny_pyNext_tuple_item st (show s.heap.IsTuple a its.toArray from p) (x:=u) (by simpa using hu) λh' st' sb=>?_;have I1:Inv X pins σ H { s with heap:=h' }:=I.turned (t':=s.toks) (λb o hb e=>(sb.2 b hb).trans e) f0 f1 f3 f4 f5
  obtain⟨o,e,c,d⟩:=id st';exact⟨u,rfl,ZV12 (s:={ s with heap:=h' }) e c d (by decide) ⟨x,H,I1,ru,⟨rfl,λys hy=>by rwa[I.tuple_inj hy hq]⟩,st',λb hb=>(hf b hb).1⟩⟩
 done:=by
  intro X hP hw hK hc i pins s σ H E I hf st hg;subst hP hw hK;obtain⟨xs,hq,hx⟩:=hg;obtain⟨its,rv,p,hz⟩:=I.tuple hq;obtain⟨f0,f1,f2,f3,f4,f5⟩:=hf it (by simp);have hl:=rv.length
  exact wpAny_pyNext_tuple_end (I.ok.hd hc) st (show s.heap.IsTuple a its.toArray from p) (by simp;omega) λh' eb=>⟨rfl,I.turned (t':=s.toks) (λb o hb e=>eb b o hb e) f0 f1 f3 f4 f5⟩
 self:=λ_ _ _ _ _ st h=>wpAny_pyIter_tupleiter st h
theorem Zi5{P:Program}{w:World}{K:Ad}{tg:Expr}(it:Addr)(lo:Int)(n:Nat):Turn P w K tg (Itr lo n) [it] it (λi h=>IsRangeIter h it (lo+(i:Nat) * 1) ((n:Int) - (i:Nat)) 1) where
 mem:=by simp
 obj:=λi h st b hb=>by
  have e:b=it:=by simpa using hb
  subst e;exact⟨_,st,λv z=>by have z':Data.fields _=Data.cell v:=z;cases z'⟩
 keep:=λi h h' st k=>k it (by simp) _ st
 item:=by
  intro X hP hw hK hc i pins s σ H E I hf st hg;subst hP hw hK;obtain⟨f0,f1,f2,f3,f4,f5⟩:=hf it (by simp);have W:=Walks.range (prog:=X.prog) (w:=X.w) (I.ok.hd hc) it lo 1 n
  refine W.item i s _ _ hg st λv h' tk hv st' kk=>?_;obtain⟨t,rfl⟩:=hv;have I1:Inv X pins σ H { s with heap:=h',toks:=tk }:=I.turned (λb o hb e=>kk b o (by simpa using hb) e) f0 f1 f3 f4 f5
  refine⟨_,rfl,ZV12 (s:={ s with heap:=h',toks:=tk }) (n:="range_iterator") st' rfl rfl (by decide) ⟨.int (lo+i),H,I1,⟨t,?_⟩,⟨rfl,rfl⟩,st',λb hb=>(hf b hb).1⟩⟩;rw[Y1r]
 done:=by intro X hP hw hK hc i pins s σ H E I hf st hg;subst hP hw hK;obtain⟨f0,f1,f2,f3,f4,f5⟩:=hf it (by simp);exact wpAny_pyNext_range_end (I.ok.hd hc) st (by have:n<=i:=hg;omega) λh' eb=>⟨rfl,I.turned (t':=s.toks) (λb o hb e=>eb b o hb e) f0 f1 f3 f4 f5⟩
 self:=λ_ _ _ _ _ st h=>wpAny_pyIter_rangeiter st h
section
variable{X:Cx}{tg:Expr}
def Zc13(K:Ad)(tl:TE):TI:=λσ H R=>tl σ H λx H1=>∃ a,x=.ref a/\(∃ xs,SqL K H1 a xs)/\R (Itl K a) H1
def iTup(K:Ad)(tl:TE):TI:=λσ H R=>tl σ H λx H1=>∃ a,x=.ref a/\(∃ xs,SqT K H1 a xs)/\R (Itt K a) H1
theorem ZN10{l:Expr}{tl:TE}(hl:PE X l tl):PI X tg l (Zc13 X.K tl):=by
 intro pins s σ H R I h;refine thn (hl pins s σ H _ I h) λv s1 hz0=>?_;obtain⟨x,H1,I1,r1,q1⟩:=hz0;obtain⟨a,e,⟨xs,hq⟩,q⟩:=q1;subst e;cases r1;obtain⟨its,rv,p,hz⟩:=I1.list hq;refine Y2g p.isList ?_;refine⟨s1.heap.objs.size,[s1.heap.objs.size],_,_,H1,rfl,I1.kept (t':=s1.toks) λb o e=>Yy4 _ e,ZV3 a _,⟨_,Yj _ rfl,rfl,rfl⟩,λb hb=>?_,q⟩;have e:b=s1.heap.objs.size:=by simpa using hb
 subst e;exact I1.fpOk (Yy6 _) (I1.hok.fresh (Yy6 _))
theorem ZB12{l:Expr}{tl:TE}(hl:PE X l tl):PI X tg l (iTup X.K tl):=by
 intro pins s σ H R I h;refine thn (hl pins s σ H _ I h) λv s1 hz0=>?_;obtain⟨x,H1,I1,r1,q1⟩:=hz0;obtain⟨a,e,⟨xs,hq⟩,q⟩:=q1;subst e;cases r1;obtain⟨its,rv,p,hz⟩:=I1.tuple hq;refine Y1D (show s1.heap.IsTuple a its.toArray from p) ?_;refine⟨s1.heap.objs.size,[s1.heap.objs.size],_,_,H1,rfl,I1.kept (t':=s1.toks) λb o e=>Yy4 _ e,ZT2 a _,⟨_,Yj _ rfl,rfl,rfl⟩,λb hb=>?_,q⟩;have e:b=s1.heap.objs.size:=by simpa using hb
 subst e;exact I1.fpOk (Yy6 _) (I1.hok.fresh (Yy6 _))
theorem ZC5{pins:List (Addr × Obj)}{σ:St}{H:Hp}{s:Shared}{R:It->Hp->Prop}{E:Ae}{lo hi:Int}{t u v:Tok}{tk:Nat}(I:Inv X pins σ H s)(h1:-(2 ^ 62)<=lo)(h2:lo<2 ^ 62)(h3:-(2 ^ 62)<=hi)(h4:hi<2 ^ 62)
  (q:R (Itr lo (hi - lo).toNat) H):wpAny (model X.prog X.w) X.A (pyIter (.ref s.heap.objs.size)) (PIE X pins σ tg R) E { s with heap:=s.heap.push { cls:=.type "range",data:=.fields #[.int lo t,.int hi u,.int 1 v] },toks:=tk }:=by
 refine wpAny_pyIter_range (IsRange.new ..) (small_one h1 h2 h3 h4) ?_;have I1:Inv X pins σ H { s with heap:=s.heap.push { cls:=.type "range",data:=.fields #[.int lo t,.int hi u,.int 1 v] },toks:=tk }:=I.kept λb o e=>Yy4 _ e
 refine⟨(s.heap.push { cls:=.type "range",data:=.fields #[.int lo t,.int hi u,.int 1 v] }).objs.size,[(s.heap.push { cls:=.type "range",data:=.fields #[.int lo t,.int hi u,.int 1 v] }).objs.size],_,_,H,rfl,
  I1.kept (t':=tk) λb o e=>Yy4 _ e,Zi5 _ lo (hi - lo).toNat,?_,λb hb=>?_,q⟩
 .have e1:lo+((0:Nat):Int) * 1=lo:=by simp
  have e2:(((hi - lo).toNat:Nat):Int) - ((0:Nat):Int)=Builtin.Range.rangeSize lo hi 1:=by rw[rangeSize_one];split <;> omega
  show IsRangeIter _ _ (lo+((0:Nat):Int) * 1) ((((hi - lo).toNat:Nat):Int) - ((0:Nat):Int)) 1;rw[e1,e2];exact Yj _ rfl
 .have e:b=(s.heap.push { cls:=.type "range",data:=.fields #[.int lo t,.int hi u,.int 1 v] }).objs.size:=by simpa using hb
  subst e;exact I1.fpOk (Yy6 _) (I1.hok.fresh (Yy6 _))
def ZH13(ta:TA):TI:=λσ H R=>ta σ H λvs H1=>∃ j:Int,vs=[.int j]/\-(2 ^ 62)<=j/\j<2 ^ 62/\R (Itr 0 j.toNat) H1
def ZG13(ta:TA):TI:=λσ H R=>ta σ H λvs H1=>∃ i j:Int,vs=[.int i,.int j]/\(-(2 ^ 62)<=i/\i<2 ^ 62/\-(2 ^ 62)<=j/\j<2 ^ 62)/\R (Itr i (j - i).toNat) H1
theorem Zj1 {a:Expr} {ta:TA} {p pos:Pos} (hg:Gl X "range") (hm:X.mg "range"=none) (ha:PA X [a] ta) (hs:starEach [a] X.env=[(false,eval a X.env)]:=by rfl):PI X tg (.Call (.Name "range" p) [a] [] pos) (ZH13 ta):=by
 intro pins s σ H R I h;refine Call_ (Zz62 I hg hm boot_range (Y0c (thn (ha pos pins s σ H _ I h) λus s1 hz0=>?_) hs rfl));obtain⟨vs,H1,I1,r1,q1⟩:=hz0;obtain⟨j,e,q1,q2,q⟩:=q1;subst e;cases r1 with
 | cons r rr =>
  cases rr;obtain⟨t,rfl⟩:=r;exact call_range_1 (ZC5 I1 (by omega) (by omega) q1 q2 (by simpa using q))
theorem Zz54 {a b:Expr} {ta:TA} {p pos:Pos} (hg:Gl X "range") (hm:X.mg "range"=none) (ha:PA X [a,b] ta) (hs:starEach [a,b] X.env=[(false,eval a X.env),(false,eval b X.env)]:=by rfl) (hs2:starEach [b] X.env=[(false,eval b X.env)]:=by rfl) :
  PI X tg (.Call (.Name "range" p) [a,b] [] pos) (ZG13 ta):=by
 intro pins s σ H R I h;refine Call_ (Zz62 I hg hm boot_range (Y0c (thn (ha pos pins s σ H _ I h) λus s1 ⟨vs,H1,I1,r1,q1⟩=>?_) (by rw[hs,hs2]) (by rw[hs2];rfl)));obtain⟨i,j,e,⟨q1,q2,q3,q4⟩,q⟩:=q1;subst e;cases r1 with
 | cons r rr =>
  cases rr with
  | cons r' rr =>
   cases rr;obtain⟨t,rfl⟩:=r;obtain⟨t',rfl⟩:=r';exact call_range_2 (ZC5 I1 q1 q2 q3 q4 q)
def tFor(wi:TI)(g:TG)(tb:TS):TS:=λD σ H=>wi σ H λJ H1=>∃ W:Nat->Nat->St->Hp->Prop,(∃ m,W 0 m σ H1)/\∀ i m σ H,W i m σ H ->
 (J.stop i H/\D.nx σ H)\/(J.go i H/\∃ N:St->Hp->Prop,(∀ σ' H',N σ' H'->∃ m',m'<m/\W (i+1) m' σ' H')/\∀ x H',J.yld i H x H'->g x σ H' λσ2 H2=>tb { D with nx:=N,ct:=N,bk:=D.nx } σ2 H2)
def Zw2(fp:List Addr)(h:Heap):List (Addr × Obj):=fp.filterMap λb=>(h.get? b).map λo=>(b,o)
theorem Zu1{fp:List Addr}{h:Heap}{b:Addr}{o:Obj}(hb:b∈fp)(e:h.get? b=some o):(b,o)∈Zw2 fp h:=Y1V.mpr ⟨b,hb,by rw[e];rfl⟩
theorem Za4{fp:List Addr}{h:Heap}{p:Addr × Obj}(hp:p∈Zw2 fp h):p.1∈fp/\h.get? p.1=some p.2:=by
 obtain⟨b,hb,e⟩:=Y1V.mp hp;cases q:h.get? b with
 | none=>rw[q]at e;cases e
 | some o =>
  rw[q]at e;have e':(b,o)=p:=Yd e
  subst e';exact⟨hb,q⟩
theorem Inv.pinned{pins:List (Addr × Obj)}{σ:St}{H:Hp}{s:Shared}{fp:List Addr}(I:Inv X pins σ H s)(hf:∀ b∈fp,FpOk X pins H b)(ho:∀ b∈fp,∃ o,s.heap.get? b=some o/\∀ v,o.data≠.cell v):Inv X (pins++Zw2 fp s.heap) σ H s :=
 I.pins_of λp hp=>(Ya.mp hp).elim (λz=>I.pin p (Yb _ z)) λz=>by obtain⟨hb,e⟩:=Za4 z;obtain⟨f0,f1,f2,_⟩:=hf p.1 hb;obtain⟨o,e',d⟩:=ho p.1 hb;rw[e]at e';cases e';exact⟨e,f0,f1,f2,d⟩
theorem Inv.unpinned{pins pl:List (Addr × Obj)}{σ:St}{H:Hp}{s:Shared}(I:Inv X (pins++pl) σ H s):Inv X pins σ H s:=I.pins_of λp hp=>I.pin p (Yb _ (Yg _ hp))
theorem ZX{iter:Expr}{body:List Stmt}{wi:TI}{g:TG}{tb:TS}{pos:Pos}(hp:PassesOwn (model X.prog X.w) X.A X.env X.xe)(hc:X.calm=true)(hi:PI X tg iter wi)(hg:PG X tg g)(hb:PSs X body tb)
  (hs:∀ x,foldedSetIterable iter X.env x=pure x:=by intro _;rfl):PS X (.For tg iter body [] pos) (tFor wi g tb):=by
 intro pins s σ H D I h;refine wpAny_For (thn (hi pins s σ H _ I h) λv s1 h1=>thn h1 λitv s2 h2=>?_) hs;obtain⟨it,fp,tn,J,H2,e,I2,T,st2,f2,W,⟨m0,w0⟩,turn⟩:=h2;subst e;have stat:∀ {H':Hp},(∀ b∈fp,H' b=none)->∀ b∈fp,FpOk X pins H' b:=λhn b hb=>⟨hn b hb,(f2 b hb).2⟩
 refine codeAny_forLoop_any (λn s'=>∃ i σ' H',Inv X pins σ' H' s'/\tn i s'.heap/\(∀ b∈fp,H' b=none)/\W i n σ' H') ?_ m0 ⟨0,σ,H2,I2,st2,λb hb=>(f2 b hb).1,w0⟩;rintro n s3 ⟨i,σ3,H3,I3,st3,fr3,w3⟩;rcases turn i n σ3 H3 w3 with ⟨stop,qn⟩ | ⟨go,N,hN,step⟩
 .refine Y1d hp (thn (T.done X rfl rfl rfl hc i pins s3 σ3 H3 X.xe I3 (stat fr3) st3 stop) λr s4 ⟨hr,I4⟩=>?_);subst hr;exact Yy26 ⟨σ3,H3,I4,qn⟩
 .refine Y1d hp (thn (T.item X rfl rfl rfl hc i pins s3 σ3 H3 X.xe I3 (stat fr3) st3 go) λr s4 hz0=>?_);obtain⟨u,hr,h4⟩:=hz0;subst hr;refine Y1d hp (thn h4 λ_ s5 hz0=>?_);obtain⟨x,H5,I5,r5,y5,st5,fr5⟩:=hz0;have I5':=I5.pinned (stat fr5) (T.obj _ _ st5)
  refine Y1d hp (thn (hg _ s5 σ3 H5 x u _ I5' r5 (step x H5 y5)) λ_ s6 hz0=>?_);obtain⟨σ6,H6,I6,q6⟩:=hz0;refine Y1d hp (thn (hb _ s6 σ6 H6 _ I6 q6) λf s7 q7=>?_);have again:∀ {σ7:St} {H7:Hp},Inv X (pins++Zw2 fp s5.heap) σ7 H7 s7->N σ7 H7->∃ m,m<n/\∃ i σ' H',Inv X pins σ' H' s7/\tn i s7.heap/\(∀ b∈fp,H' b=none)/\W i m σ' H':=λ{σ7 H7} I7 n7=>by obtain⟨m',hm,w7⟩:=hN σ7 H7 n7;refine⟨m',hm,i+1,σ7,H7,I7.unpinned,T.keep _ _ _ st5 λb hb o e=>(I7.pin (b,o) (Yb _ (Yb _ (Zu1 hb e)))).1,λb hb=>?_,w7⟩;obtain⟨o,e,d⟩:=T.obj _ _ st5 b hb;exact(I7.pin (b,o) (Yb _ (Yb _ (Zu1 hb e)))).2.1
  cases f with
  | next=>obtain⟨σ7,H7,I7,n7⟩:=q7;exact again I7 n7
  | cont=>obtain⟨σ7,H7,I7,n7⟩:=q7;exact again I7 n7
  | brk=>obtain⟨σ7,H7,I7,q7⟩:=q7;exact⟨σ7,H7,I7.unpinned,q7⟩
  | ret v=>obtain⟨x7,σ7,H7,I7,r7,q7⟩:=q7;exact⟨x7,σ7,H7,I7.unpinned,r7,q7⟩
end
theorem ZC1{K:Ad}{a:Addr}{xs:List V}{g:TG}{tb:TS}{D:Ends}{σ:St}{H:Hp}(Pv:Nat->St->Hp->Prop)(h0:Pv 0 σ H)(hl:∀ i σ H,i<=xs.length->Pv i σ H->SqL K H a xs)
  (hs:∀ i x σ H,xs[i]?=some x->Pv i σ H->g x σ H λσ2 H2=>tb { D with nx:=Pv (i+1),ct:=Pv (i+1),bk:=D.nx } σ2 H2) (hd:∀ σ H,Pv xs.length σ H->D.nx σ H) :
  ∃ W:Nat->Nat->St->Hp->Prop,(∃ m,W 0 m σ H)/\∀ i m σ H,W i m σ H ->
   ((Itl K a).stop i H/\D.nx σ H)\/((Itl K a).go i H/\∃ N:St->Hp->Prop,(∀ σ' H',N σ' H'->∃ m',m'<m/\W (i+1) m' σ' H')/\∀ x H',(Itl K a).yld i H x H'->g x σ H' λσ2 H2=>tb { D with nx:=N,ct:=N,bk:=D.nx } σ2 H2):=by
 refine⟨λi m σ H=>m=xs.length - i/\i<=xs.length/\Pv i σ H,⟨xs.length,by simp,Yl _,h0⟩,?_⟩;rintro i m σ H ⟨rfl,hi,p⟩;have q:=hl i σ H hi p
 by_cases hlt:i<xs.length
 .refine .inr ⟨⟨xs,xs[i],q,by simp[hlt]⟩,Pv (i+1),λσ' H' p'=>⟨xs.length - (i+1),by omega,rfl,hlt,p'⟩,λx H' y=>?_⟩;obtain⟨e,y⟩:=y;subst e;exact hs i x σ _ (y xs q) p
 .have e:i=xs.length:=by omega
  subst e;exact .inl ⟨⟨xs,q,Yy6 _⟩,hd σ H p⟩
theorem Zp6{K:Ad}{a:Addr}{xs:List V}{g:TG}{tb:TS}{D:Ends}{σ:St}{H:Hp}(Pv:Nat->St->Hp->Prop)(h0:Pv 0 σ H)(hl:∀ i σ H,i<=xs.length->Pv i σ H->SqT K H a xs)
  (hs:∀ i x σ H,xs[i]?=some x->Pv i σ H->g x σ H λσ2 H2=>tb { D with nx:=Pv (i+1),ct:=Pv (i+1),bk:=D.nx } σ2 H2) (hd:∀ σ H,Pv xs.length σ H->D.nx σ H) :
  ∃ W:Nat->Nat->St->Hp->Prop,(∃ m,W 0 m σ H)/\∀ i m σ H,W i m σ H ->
   ((Itt K a).stop i H/\D.nx σ H)\/((Itt K a).go i H/\∃ N:St->Hp->Prop,(∀ σ' H',N σ' H'->∃ m',m'<m/\W (i+1) m' σ' H')/\∀ x H',(Itt K a).yld i H x H'->g x σ H' λσ2 H2=>tb { D with nx:=N,ct:=N,bk:=D.nx } σ2 H2):=by
 refine⟨λi m σ H=>m=xs.length - i/\i<=xs.length/\Pv i σ H,⟨xs.length,by simp,Yl _,h0⟩,?_⟩;rintro i m σ H ⟨rfl,hi,p⟩;have q:=hl i σ H hi p
 by_cases hlt:i<xs.length
 .refine .inr ⟨⟨xs,xs[i],q,by simp[hlt]⟩,Pv (i+1),λσ' H' p'=>⟨xs.length - (i+1),by omega,rfl,hlt,p'⟩,λx H' y=>?_⟩;obtain⟨e,y⟩:=y;subst e;exact hs i x σ _ (y xs q) p
 .have e:i=xs.length:=by omega
  subst e;exact .inl ⟨⟨xs,q,Yy6 _⟩,hd σ H p⟩
theorem ZP1{lo:Int}{n:Nat}{g:TG}{tb:TS}{D:Ends}{σ:St}{H:Hp}(Pv:Nat->St->Hp->Prop)(h0:Pv 0 σ H)
  (hs:∀ i σ H,i<n->Pv i σ H->g (.int (lo+i)) σ H λσ2 H2=>tb { D with nx:=Pv (i+1),ct:=Pv (i+1),bk:=D.nx } σ2 H2) (hd:∀ σ H,Pv n σ H->D.nx σ H) :
  ∃ W:Nat->Nat->St->Hp->Prop,(∃ m,W 0 m σ H)/\∀ i m σ H,W i m σ H ->
   ((Itr lo n).stop i H/\D.nx σ H)\/((Itr lo n).go i H/\∃ N:St->Hp->Prop,(∀ σ' H',N σ' H'->∃ m',m'<m/\W (i+1) m' σ' H')/\∀ x H',(Itr lo n).yld i H x H'->g x σ H' λσ2 H2=>tb { D with nx:=N,ct:=N,bk:=D.nx } σ2 H2):=by
 refine⟨λi m σ H=>m=n - i/\i<=n/\Pv i σ H,⟨n,by simp,Yl _,h0⟩,?_⟩;rintro i m σ H ⟨rfl,hi,p⟩;by_cases hlt:i<n
 .refine .inr ⟨hlt,Pv (i+1),λσ' H' p'=>⟨n - (i+1),by omega,rfl,hlt,p'⟩,λx H' y=>?_⟩;obtain⟨e,y⟩:=y;subst e y;exact hs i σ _ hlt p
 .have e:i=n:=by omega
  subst e;exact .inl ⟨Yy6 _,hd σ H p⟩
abbrev R2:=V->V->Hp->VK->Prop
def OpR(X:Cx)(f:Value->Value->Sem Value)(r:R2):Prop :=
 ∀(pins:List (Addr × Obj)) (s:Shared) (σ:St) (H:Hp) (x y:V) (v u:Value) (Q:VK),Inv X pins σ H s->RelV x v->RelV y u->r x y H Q ->
  wpAny (model X.prog X.w) X.A (f v u) (EP X pins σ Q) X.xe s
def UnR(X:Cx)(f:Value->Sem Value)(r:V->Hp->VK->Prop):Prop :=
 ∀(pins:List (Addr × Obj)) (s:Shared) (σ:St) (H:Hp) (x:V) (v:Value) (Q:VK),Inv X pins σ H s->RelV x v->r x H Q ->
  wpAny (model X.prog X.w) X.A (f v) (EP X pins σ Q) X.xe s
def Zg2(X:Cx)(f:Value)(r:List V->Hp->VK->Prop):Prop :=
 ∀(pins:List (Addr × Obj)) (s:Shared) (σ:St) (H:Hp) (xs:List V) (us:Ag) (Q:VK),Inv X pins σ H s->Vals xs us->r xs H Q ->
  wpAny (model X.prog X.w) X.A (call f us) (EP X pins σ Q) X.xe s
def tOp(r:R2)(ta tb:TE):TE:=λσ H Q=>ta σ H λx H1=>tb σ H1 λy H2=>r x y H2 Q
def tUn(r:V->Hp->VK->Prop)(ta:TE):TE:=λσ H Q=>ta σ H λx H1=>r x H1 Q
def rI(C:Int->Int->Prop)(g:Int->Int->V):R2:=λx y H Q=>∃ i j,x=.int i/\y=.int j/\C i j/\Q (g i j) H
def rI0(g:Int->Int->V):R2:=λx y H Q=>∃ i j,x=.int i/\y=.int j/\Q (g i j) H
def rU(g:Int->V):V->Hp->VK->Prop:=λx H Q=>∃ i,x=.int i/\Q (g i) H
section
variable{X:Cx}{a b:Expr}{ta tb:TE}{pos:Pos}
theorem binT(ha:PE X a ta)(hb:PE X b tb){pins:List (Addr × Obj)}{s:Shared}{σ:St}{H:Hp}{R:V->V->Hp->Prop}(I:Inv X pins σ H s)
  (h:ta σ H λx H1=>tb σ H1 λy H2=>R x y H2) {Q:Ae} {f:Value->Value->Sem Value}
  (hf:∀ v u s2 x y H2,Inv X pins σ H2 s2->RelV x v->RelV y u->R x y H2->wpAny (model X.prog X.w) X.A (f v u) Q X.xe s2) :
  wpAny (model X.prog X.w) X.A (eval a X.env) (λv s₁=>wpAny (model X.prog X.w) X.A (eval b X.env) (λu s₂=>wpAny (model X.prog X.w) X.A (f v u) Q X.xe s₂) X.xe s₁) X.xe s:=by refine thn (ha pins s σ H _ I h) λv s1 hz0=>?_;obtain⟨x,H1,I1,r1,q1⟩:=hz0;refine thn (hb pins s1 σ H1 _ I1 q1) λu s2 hz0=>?_;obtain⟨y,H2,I2,r2,q2⟩:=hz0;exact hf v u s2 x y H2 I2 r1 r2 q2
theorem Zp{op:Operator}{r:R2}(ho:OpR X (binaryOp op) r)(ha:PE X a ta)(hb:PE X b tb):PE X (.BinOp a op b pos) (tOp r ta tb):=by intro pins s σ H Q I h;exact wpAny_BinOp (binT ha hb I h λv u s2 x y H2 I2 rx ry q=>ho pins s2 σ H2 x y v u Q I2 rx ry q)
theorem Zz18{op:UnaryOp}{r:V->Hp->VK->Prop}(ho:UnR X (unaryOp op) r)(ha:PE X a ta):PE X (.UnaryOp op a pos) (tUn r ta):=by intro pins s σ H Q I h;exact UnaryOp_ (thn (ha pins s σ H _ I h) λv s1 ⟨x,H1,I1,r1,q1⟩=>ho pins s1 σ H1 x v Q I1 r1 q1)
theorem opI{f:Value->Value->Sem Value}{C:Int->Int->Prop}{g:Int->Int->Int}
  (rule:∀(i j:Int) (t u:Tok) (s:Shared) (Q:Ae) (E:Ae),C i j->Q (.int (g i j) s.toks) { s with toks:=s.toks+1 }->wpAny (model X.prog X.w) X.A (f (.int i t) (.int j u)) Q E s) :
  OpR X f (rI C λi j=>.int (g i j)):=by intro pins s σ H x y v u Q I rx ry h;obtain⟨i,j,rfl,rfl,hc,q⟩:=h;obtain⟨t,rfl⟩:=rx;obtain⟨t',rfl⟩:=ry;exact rule i j t t' s _ _ hc ⟨.int (g i j),H,I.tok _,⟨_,rfl⟩,q⟩
theorem opI0{f:Value->Value->Sem Value}{g:Int->Int->Int}
  (rule:∀(i j:Int) (t u:Tok) (s:Shared) (Q:Ae) (E:Ae),Q (.int (g i j) s.toks) { s with toks:=s.toks+1 }->wpAny (model X.prog X.w) X.A (f (.int i t) (.int j u)) Q E s) :
  OpR X f (rI0 λi j=>.int (g i j)):=by intro pins s σ H x y v u Q I rx ry h;obtain⟨i,j,rfl,rfl,q⟩:=h;obtain⟨t,rfl⟩:=rx;obtain⟨t',rfl⟩:=ry;exact rule i j t t' s _ _ ⟨.int (g i j),H,I.tok _,⟨_,rfl⟩,q⟩
theorem opB0{f:Value->Value->Sem Value}{g:Int->Int->Bool}
  (rule:∀(i j:Int) (t u:Tok) (s:Shared) (Q:Ae) (E:Ae),Q (.bool (g i j)) s->wpAny (model X.prog X.w) X.A (f (.int i t) (.int j u)) Q E s) :
  OpR X f (rI0 λi j=>.bl (g i j)):=by intro pins s σ H x y v u Q I rx ry h;obtain⟨i,j,rfl,rfl,q⟩:=h;obtain⟨t,rfl⟩:=rx;obtain⟨t',rfl⟩:=ry;exact rule i j t t' s _ _ ⟨.bl (g i j),H,I,rfl,q⟩
def CDiv(i j:Int):Prop:=0<j/\j<1073741824
def CPow(i j:Int):Prop:=0<=j/\j<=1000000/\i.natAbs<2 ^ 64
def CMul(i j:Int):Prop:=(-(2 ^ 64)<i/\i<2 ^ 64)\/(-(2 ^ 64)<j/\j<2 ^ 64)
theorem CMul.ok{i j:Int}(h:CMul i j):IntMulOk i j:=by
 rcases h with ⟨h1,h2⟩ | ⟨h1,h2⟩
 .exact .of_left (intBits_le_64 h1 h2)
 .exact .of_right (intBits_le_64 h1 h2)
theorem Zo1:OpR X (binaryOp .Add) (rI0 λi j=>.int (i+j)):=opI0 λ_ _ _ _ _ _ _ q=>add_int q
theorem Zw3:OpR X (binaryOp .Sub) (rI0 λi j=>.int (i - j)):=opI0 λ_ _ _ _ _ _ _ q=>sub_int q
theorem Zx2:OpR X (binaryOp .Mult) (rI CMul λi j=>.int (i * j)):=opI λ_ _ _ _ _ _ _ hc q=>mul_int q hc.ok
theorem ZI1:OpR X (binaryOp .FloorDiv) (rI CDiv λi j=>.int (i / j)):=opI λi j _ _ _ _ _ hc q=>by
 have h1:(0:Int)<j:=hc.1;have h2:j<1073741824:=hc.2
 exact floordiv_int (by omega) (by rwa[Int.fdiv_eq_ediv_of_nonneg i (by omega)]) (.inl (PyProof.noPylong_small (by omega)))
theorem ZF:OpR X (binaryOp .Mod) (rI (λ_ j=>0<j) λi j=>.int (i % j)):=opI λi j _ _ _ _ _ hc q=>by have h1:(0:Int)<j:=hc;exact mod_int' (by omega) (by rwa[Int.fmod_eq_emod_of_nonneg i (by omega)])
theorem ZQ4:OpR X (binaryOp .Pow) (rI CPow λi j=>.int (i ^ j.toNat)):=opI λ_ _ _ _ _ _ _ hc q=>pow_int_small hc.1 hc.2.1 hc.2.2 q
theorem unI{f:Value->Sem Value}{g:Int->Int}
  (rule:∀(i:Int) (t:Tok) (s:Shared) (Q:Ae) (E:Ae),Q (.int (g i) s.toks) { s with toks:=s.toks+1 }->wpAny (model X.prog X.w) X.A (f (.int i t)) Q E s) :
  UnR X f (rU λi=>.int (g i)):=by intro pins s σ H x v Q I rx h;obtain⟨i,rfl,q⟩:=h;obtain⟨t,rfl⟩:=rx;exact rule i t s _ _ ⟨.int (g i),H,I.tok _,⟨_,rfl⟩,q⟩
theorem ZS2:UnR X (unaryOp .USub) (rU λi=>.int (-i)):=unI λ_ _ _ _ _ q=>neg_int q
end
def scal:V->V->Bool
 | .non,.non=>true | .non,.int _=>true | .int _,.non=>true | .non,.bl _=>true | .bl _,.non=>true | .non,.str _=>true | .str _,.non=>true
 | .int _,.int _=>true | .bl _,.bl _=>true | .str _,.str _=>true | .byt _,.byt _=>true
 | .int _,.str _=>true | .str _,.int _=>true | .bl _,.str _=>true | .str _,.bl _=>true
 | _,_=>false
def rEq:R2:=λx y H Q=>scal x y=true/\Q (.bl (decide (x=y))) H
def rNe:R2:=λx y H Q=>scal x y=true/\Q (.bl (!decide (x=y))) H
theorem Zw{i j:Int}:decide (V.int i=V.int j)=(i == j):=by rw[Y0M];simp
theorem ZL11{i j:Bool}:decide (V.bl i=V.bl j)=(i == j):=by rw[Y0M];simp
theorem Zx8{i j:Str}:decide (V.str i=V.str j)=(i == j):=by rw[Y0M];simp
theorem Zy8{i j:Array UInt8}:decide (V.byt i=V.byt j)=(i.toList == j.toList):=by rw[Y0M];cases i;cases j;simp
section
variable{X:Cx}{a b c:Expr}{ta tb tc:TE}{pos:Pos}
theorem ZG{pins:List (Addr × Obj)}{σ:St}{H:Hp}{s:Shared}{Q:VK}{k k':Bool}(I:Inv X pins σ H s)(q:Q (.bl k) H)(e:k=k'):EP X pins σ Q (.bool k') s:=by subst e;exact⟨.bl k,H,I,rfl,q⟩
theorem Zz33:OpR X (compareOp .Eq) rEq:=by
 intro pins s σ H x y v u Q I rx ry h;obtain⟨hs,q⟩:=h;cases x with
 | non =>
  cases rx;cases y with
  | non=>cases ry;exact PySem.EqNone.eq_none_none (ZG I q (by simp))
  | bl j=>cases ry;exact PySem.EqNone.eq_none_bool (ZG I q (by simp))
  | int j=>obtain⟨t',rfl⟩:=ry;exact PySem.EqNone.eq_none_int (ZG I q (by simp))
  | str j=>obtain⟨t',rfl⟩:=ry;exact PySem.EqNone.eq_none_str (ZG I q (by simp))
  | _=>exact absurd (show false=true from hs) Yq
 | bl i =>
  cases rx;cases y with
  | non=>cases ry;exact PySem.EqNone.eq_bool_none (ZG I q (by simp))
  | bl j=>cases ry;exact eq_bool (ZG I q ZL11)
  | str j=>obtain⟨t',rfl⟩:=ry;exact PySem.EqMixed.eq_bool_str (ZG I q (by simp))
  | _=>exact absurd (show false=true from hs) Yq
 | int i =>
  obtain⟨t,rfl⟩:=rx;cases y with
  | non=>cases ry;exact PySem.EqNone.eq_int_none (ZG I q (by simp))
  | int j=>obtain⟨t',rfl⟩:=ry;exact eq_int (ZG I q Zw)
  | str j=>obtain⟨t',rfl⟩:=ry;exact PySem.EqMixed.eq_int_str (ZG I q (by simp))
  | _=>exact absurd (show false=true from hs) Yq
 | str i =>
  obtain⟨t,rfl⟩:=rx;cases y with
  | non=>cases ry;exact PySem.EqNone.eq_str_none (ZG I q (by simp))
  | bl j=>cases ry;exact PySem.EqMixed.eq_str_bool (ZG I q (by simp))
  | int j=>obtain⟨t',rfl⟩:=ry;exact PySem.EqMixed.eq_str_int (ZG I q (by simp))
  | str j=>obtain⟨t',rfl⟩:=ry;exact eq_str (ZG I q Zx8)
  | _=>exact absurd (show false=true from hs) Yq
 | byt i =>
  obtain⟨t,rfl⟩:=rx;cases y with
  | byt j=>obtain⟨t',rfl⟩:=ry;exact PySem.W.eq_bytes (ZG I q Zy8)
  | _=>exact absurd (show false=true from hs) Yq
 | _=>cases y <;> exact absurd (show false=true from hs) Yq
theorem Ze9:OpR X (compareOp .NotEq) rNe:=by
 intro pins s σ H x y v u Q I rx ry h;obtain⟨hs,q⟩:=h;cases x with
 | non =>
  cases rx;cases y with
  | non=>cases ry;exact PySem.EqNone.ne_none_none (ZG I q (by simp))
  | bl j=>cases ry;exact PySem.EqNone.ne_none_bool (ZG I q (by simp))
  | int j=>obtain⟨t',rfl⟩:=ry;exact PySem.EqNone.ne_none_int (ZG I q (by simp))
  | str j=>obtain⟨t',rfl⟩:=ry;exact PySem.EqNone.ne_none_str (ZG I q (by simp))
  | _=>exact absurd (show false=true from hs) Yq
 | bl i =>
  cases rx;cases y with
  | non=>cases ry;exact PySem.EqNone.ne_bool_none (ZG I q (by simp))
  | bl j=>cases ry;exact ne_bool (ZG I q (YZ not ZL11))
  | str j=>obtain⟨t',rfl⟩:=ry;exact PySem.EqMixed.ne_bool_str (ZG I q (by simp))
  | _=>exact absurd (show false=true from hs) Yq
 | int i =>
  obtain⟨t,rfl⟩:=rx;cases y with
  | non=>cases ry;exact PySem.EqNone.ne_int_none (ZG I q (by simp))
  | int j=>obtain⟨t',rfl⟩:=ry;exact ne_int (ZG I q (YZ not Zw))
  | str j=>obtain⟨t',rfl⟩:=ry;exact PySem.EqMixed.ne_int_str (ZG I q (by simp))
  | _=>exact absurd (show false=true from hs) Yq
 | str i =>
  obtain⟨t,rfl⟩:=rx;cases y with
  | non=>cases ry;exact PySem.EqNone.ne_str_none (ZG I q (by simp))
  | bl j=>cases ry;exact PySem.EqMixed.ne_str_bool (ZG I q (by simp))
  | int j=>obtain⟨t',rfl⟩:=ry;exact PySem.EqMixed.ne_str_int (ZG I q (by simp))
  | str j=>obtain⟨t',rfl⟩:=ry;exact ne_str (ZG I q (YZ not Zx8))
  | _=>exact absurd (show false=true from hs) Yq
 | byt i =>
  obtain⟨t,rfl⟩:=rx;cases y with
  | byt j=>obtain⟨t',rfl⟩:=ry;exact PySem.W.ne_bytes (ZG I q (YZ not Zy8))
  | _=>exact absurd (show false=true from hs) Yq
 | _=>cases y <;> exact absurd (show false=true from hs) Yq
theorem ZM5:OpR X (compareOp .Lt) (rI0 λi j=>.bl (decide (i<j))):=opB0 λ_ _ _ _ _ _ _ q=>lt_int q
theorem Za10:OpR X (compareOp .LtE) (rI0 λi j=>.bl (decide (i<=j))):=opB0 λ_ _ _ _ _ _ _ q=>le_int q
theorem ZX10:OpR X (compareOp .Gt) (rI0 λi j=>.bl (decide (j<i))):=opB0 λ_ _ _ _ _ _ _ q=>gt_int q
theorem ZW10:OpR X (compareOp .Is) (λx y H Q=>y=.non/\Q (.bl (decide (x=.non))) H):=by
 intro pins s σ H x y v u Q I rx ry h;obtain⟨rfl,q⟩:=h;cases ry;refine is_none_gen (ZG I q ?_);cases x <;> first
  | (cases rx;rfl)
  | (obtain⟨t,rfl⟩:=rx;rfl)
theorem Zq(b:Expr){op:CmpOp}(h:op≠.In:=by decide)(h2:op≠.NotIn:=by decide):behindInMarks op b=false:=by
 have e1:(op == CmpOp.In)=false:=by cases op <;> first | rfl | exact absurd rfl h
 have e2:(op == CmpOp.NotIn)=false:=by cases op <;> first | rfl | exact absurd rfl h2
 cases b <;> simp[behindInMarks,e1,e2]
theorem Zz64{op:CmpOp}{r:R2}(ho:OpR X (compareOp op) r)(ha:PE X a ta)(hb:PE X b tb)(hm:behindInMarks op b=false):PE X (.Compare a [op] [b] pos) (tOp r ta tb):=by intro pins s σ H Q I h;exact wpAny_Compare1 (binT ha hb I h λv u s2 x y H2 I2 rx ry q=>ho pins s2 σ H2 x y v u Q I2 rx ry q) hm
def Zz613(t:TE):TT:=λσ H Q=>t σ H λx H'=>∃ k,x=.bl k/\Q k H'
theorem Zi{op:CmpOp}{r:R2}(ho:OpR X (compareOp op) r)(ha:PE X a ta)(hb:PE X b tb)(hm:behindInMarks op b=false):PT X (.Compare a [op] [b] pos) (Zz613 (tOp r ta tb)):=by
 intro pins s σ H Q I h;refine wpAny_isTrue_Compare1 (thn (ha pins s σ H _ I h) λv s1 ⟨x,H1,I1,r1,q1⟩=>thn (hb pins s1 σ H1 _ I1 q1) λu s2 ⟨y,H2,I2,r2,q2⟩ =>
  thn (ho pins s2 σ H2 x y v u _ I2 r1 r2 q2) λc s3 ⟨z,H3,I3,r3,k,e,q3⟩=>?_) hm
 subst e;cases r3;exact Y0N ⟨H3,I3,q3⟩
def Zp10(r r':R2)(ta tb tc:TE):TE:=λσ H Q=>ta σ H λx H1=>tb σ H1 λy H2=>r x y H2 λz H3=>∃ k,z=.bl k /\
 (if k=true then tc σ H3 λw' H4=>r' y w' H4 Q else Q (.bl false) H3)
theorem Za9{op op':CmpOp}{r r':R2}(ho:OpR X (compareOp op) r)(ho':OpR X (compareOp op') r')(ha:PE X a ta)(hb:PE X b tb)(hc:PE X c tc)
  (hm:lastMarks [op,op'] [b,c]=false:=by with_unfolding_all rfl):PE X (.Compare a [op,op'] [b,c] pos) (Zp10 r r' ta tb tc):=by
 intro pins s σ H Q I h;refine Compare_chain (thn (ha pins s σ H _ I h) λv s1 ⟨x,H1,I1,r1,q1⟩=>chain_link (thn (hb pins s1 σ H1 _ I1 q1) λu s2 ⟨y,H2,I2,r2,q2⟩ =>
  thn (ho pins s2 σ H2 x y v u _ I2 r1 r2 q2) λd s3 ⟨z,H3,I3,r3,k,e,q3⟩=>?_)) hm
 subst e;cases r3;refine Y0N ?_;cases k with
 | false=>exact ite_ff ⟨.bl false,H3,I3,rfl,q3⟩
 | true=>exact ite_tt (chain_last (thn (hc pins s3 σ H3 _ I3 q3) λw' s4 ⟨z',H4,I4,r4,q4⟩=>ho' pins s4 σ H4 y z' u w' Q I4 r2 r4 q4))
theorem Zr3{op op':CmpOp}{r r':R2}(ho:OpR X (compareOp op) r)(ho':OpR X (compareOp op') r')(ha:PE X a ta)(hb:PE X b tb)(hc:PE X c tc)
  (hm:lastMarks [op,op'] [b,c]=false:=by with_unfolding_all rfl):PT X (.Compare a [op,op'] [b,c] pos) (Zz613 (Zp10 r r' ta tb tc)):=by
 intro pins s σ H Q I h;refine isTrue_chain (thn (ha pins s σ H _ I h) λv s1 ⟨x,H1,I1,r1,q1⟩=>test_link (thn (hb pins s1 σ H1 _ I1 q1) λu s2 ⟨y,H2,I2,r2,q2⟩ =>
  thn (ho pins s2 σ H2 x y v u _ I2 r1 r2 q2) λd s3 ⟨z,H3,I3,r3,k,e,q3⟩=>?_)) hm
 subst e;cases r3;refine Y0N ?_;cases k with
 | false =>
  obtain⟨k',e',q'⟩:=q3;cases e';exact ite_ff ⟨H3,I3,q'⟩
 | true =>
  refine ite_tt (test_last (thn (hc pins s3 σ H3 _ I3 q3) λw' s4 ⟨z',H4,I4,r4,q4⟩=>thn (ho' pins s4 σ H4 y z' u w' _ I4 r2 r4 q4) λd' s5 hz0=>?_));obtain⟨z2,H5,I5,r5,k2,e2,q5⟩:=hz0;subst e2;cases r5;exact Y0N ⟨H5,I5,q5⟩
theorem Zz46:(sizeLine:Nat)<2 ^ 63:=by rw[Y0W];decide
theorem Zk3{x:V}{us:Ag}(r:Vals [x] us):∃ u,us=[u]/\RelV x u:=by
 cases r with
 | cons r1 r2=>cases r2;exact⟨_,rfl,r1⟩
theorem Zz012{x y:V}{us:Ag}(r:Vals [x,y] us):∃ u w',us=[u,w']/\RelV x u/\RelV y w':=by
 cases r with
 | cons r1 r2 =>
  cases r2 with
  | cons r3 r4=>cases r4;exact⟨_,_,rfl,r1,r3⟩
theorem ZJ7 (hc:X.calm=true):Zg2 X (.builtin "max") (λxs H Q=>∃ i j,xs=[.int i,.int j]/\Q (.int (if j > i then j else i)) H):=by
 intro pins s σ H xs us Q I r h;obtain⟨i,j,rfl,q⟩:=h;obtain⟨u,w',rfl,⟨t,rfl⟩,⟨t',rfl⟩⟩:=Zz012 r;refine max_two_ints (I.ok.hd hc) λh' tk k=>⟨_,H,I.kept k,?_,q⟩;by_cases hj:j > i
 .rw[if_pos hj,if_pos hj];exact⟨_,rfl⟩
 .rw[if_neg hj,if_neg hj];exact⟨_,rfl⟩
theorem ZI7 (hc:X.calm=true):Zg2 X (.builtin "min") (λxs H Q=>∃ i j,xs=[.int i,.int j]/\Q (.int (if j<i then j else i)) H):=by
 intro pins s σ H xs us Q I r h;obtain⟨i,j,rfl,q⟩:=h;obtain⟨u,w',rfl,⟨t,rfl⟩,⟨t',rfl⟩⟩:=Zz012 r;refine min_two_ints (I.ok.hd hc) λh' tk k=>⟨_,H,I.kept k,?_,q⟩;by_cases hj:j<i
 .rw[if_pos hj,if_pos hj];exact⟨_,rfl⟩
 .rw[if_neg hj,if_neg hj];exact⟨_,rfl⟩
theorem ZK7:Zg2 X (.type "int") (λxs H Q=>(∃ i,xs=[.int i]/\Q (.int i) H)\/∃ k,xs=[.bl k]/\Q (.int (if k then 1 else 0)) H):=by
 intro pins s σ H xs us Q I r h;rcases h with ⟨i,rfl,q⟩ | ⟨k,rfl,q⟩
 .obtain⟨u,rfl,t,rfl⟩:=Zk3 r;exact call_int_int ⟨.int i,H,I,⟨_,rfl⟩,q⟩
 .obtain⟨u,rfl,r1⟩:=Zk3 r;cases r1;exact call_int_bool ⟨.int (if k then 1 else 0),H,I.tok _,⟨_,rfl⟩,q⟩
end
structure ObjM (h:Heap) (x dx C:Addr) (mA:Af):Prop where
 obj:h.get? x=some (PySem.W.instObj C dx)
 ns:h.Ns1 dx mA
 ne:dx≠x
theorem Zi7{h:Heap}{dx:Addr}{mA:Af}(n:h.Ns1 dx mA):∃ od,h.get? dx=some od/\∀ name,PySem.W.lookIn name od=some (mA name):=by
 obtain⟨o,es,ep,ho,hd,hk,_,hm⟩:=n;refine⟨o,ho,λname=>?_⟩;have e:=hm name
 unfold nsFind findBy at e;rw[<- Array.find?_toList]at e;unfold PySem.W.lookIn;rw[hd];dsimp only;split
 .rename_i y q;rw[q]at e;exact YZ some e
 .rename_i q;rw[q]at e;have a:es.toList.any (·.refKey)=false:=by rw[List.any_eq_false];intro y hy;obtain⟨z,t,hkey⟩:=hk y (Array.mem_toList_iff.mp hy);simp[DictEntry.refKey,hkey]
  have a':¬ es.toList.any (·.refKey)=true:=by rw[a];exact Yq
  rw[if_neg a'];exact YZ some e
theorem ObjM.look{h:Heap}{x dx C:Addr}{mA:Af}(I:ObjM h x dx C mA):∃ od,PySem.W.InstAt h x (PySem.W.instObj C dx) C (some od)/\∀ name,PySem.W.lookIn name od=some (mA name) :=
 let ⟨od,ho,hl⟩:=Zi7 I.ns
 ⟨od,⟨I.obj,rfl,rfl,ho⟩,hl⟩
section
variable{prog:Program}{w:World}{A:Around}{E:Ae}{s:Shared}{K:Ad}{x dx C f:Addr}{mA:Af}{name:Str}{v:Value}
theorem Zv11{expr:Bool}{Q:Ae}(X:K.In s.heap)(I:ObjM s.heap x dx C mA)(hg:PySem.W.plainGet K C name=true)(hh:PySem.W.hasDictIn K C=true)
  (ha:PySem.W.findIn K (.ref C) name=some none) (hv:mA name=some v) (hv':PySem.W.handedIn v=true) (h:Q v { s with toks:=s.toks+1 }) :
  wpAny (model prog w) A (getAttr (.ref x) name expr) Q E s:=by obtain⟨od,J,hl⟩:=I.look;exact PySem.W.get_value X J (PySem.W.plainGet_of hg).1 (PySem.W.findObj_own hh ha rfl (by rw[hl,hv])) hv' h
theorem Zw10{ns:List Str}{Q:Unit->Shared->Prop}(X:K.In s.heap)(I:ObjM s.heap x dx C mA)
  (hs:PySem.W.findIn K (.ref C) "__setattr__"=some (some (.builtin "object.__setattr__"))) (hp:PySem.W.plainOver K C=true) (ht:PySem.W.takerIn K C name=some none) (hh:PySem.W.hasDictIn K C=true)
  (hw:PySem.Within mA ns) (hsz:ns.length<=sizeLine)
  (h:∀ h',ObjM h' x dx C (λy=>if y=name then some v else mA y)->Heap.SameBut dx s.heap h'->Q () { s with heap:=h',toks:=s.toks+2 }) :
  wpAny (model prog w) A (setAttr (.ref x) name v) Q E s:=by
 obtain⟨od,J,hl⟩:=I.look;refine PySem.W.set_plain X J hs (PySem.W.osa_open (s:={ s with toks:=s.toks+1 }) (r:=none) X J hp ht λb=>?_);obtain⟨cd,hc,hd'⟩:=PySem.W.any_some hh;have hx:s.heap.get? x=some ⟨.ref C,some dx,.plain,#[]⟩:=I.obj
 refine Yy0 (Yf (Yy0 (Yy0 (wpAny_loadPart hx (Yy0 (PySem.W.Looks.here (s:={ s with toks:=s.toks+1 }) (PySem.W.looks_clsIn X hc) ?_))))));rw[hd'];refine Yf (a:=some dx) (Yy0 (Yf (Yy0 ?_)));refine wpAny_nsSet1 (s:={ s with toks:=s.toks+1 }) I.ns λh' hn2 hs2=>?_;obtain⟨oD,esD,epD,hoD,hdD,hcD⟩:=hn2.count (PySem.Within.cons name v hw);refine Yy0 (wpAny_lookBehind hoD (by rw[hdD];exact pastItsLine_dict (YD hcD (by rw[Yz];omega))) ?_);exact Yf (h _ ⟨(hs2.2 _ (YR I.ne)).trans I.obj,hn2,I.ne⟩ hs2)
theorem Zo9{R:Result->Shared->Prop}{vs:Ag}{kw:List (Str × Value)}(X:K.In s.heap)(hm:PySem.W.makesIn K C=true)
  (hi:PySem.W.findIn K (.ref C) "__init__"=some (some (.ref f))) (hf:PySem.W.typeIn K (.ref f)=some (.type "function"))
  (h:codeAny (model prog w) (A.under (.builtin "type.__call__" ⟨.ref C :: vs,kw⟩)) (.call (.ref f) ⟨.ref (s.heap.objs.size+1) :: vs,kw⟩) (PySem.W.InitBack (s.heap.objs.size+1) R)
   { s with heap:=(s.heap.push PySem.W.emptyDict).push (PySem.W.instObj C s.heap.objs.size) }) :
  codeAny (model prog w) A (.call (.ref C) ⟨vs,kw⟩) R s:=by obtain⟨hh,g,d,t,os⟩:=s;exact PySem.W.make_core (PySem.W.makes_of X hm) (PySem.W.looks_findIn X hi) (λself=>PySem.W.bind_fn X self hf) (.inl rfl) h
end
def putF(f:Str)(v:V):List (Str × V)->List (Str × V)
 | []=>[(f,v)]
 | (g,x) :: r=>if g=f then (g,v) :: r else (g,x) :: putF f v r
theorem Zz71(f g:Str)(v:V):∀ fs:List (Str × V),(putF f v fs).lookup g=if g=f then some v else fs.lookup g
 | []=>by
  show List.lookup g [(f,v)]=_;by_cases h:g=f
  .have hb:(g == f)=true:=Y0X.mpr h;simp only [List.lookup,hb,if_pos h]
  .have hb:(g == f)=false:=Y1e.mpr h;simp only [List.lookup,hb,if_neg h]
 | (k,x) :: r=>by
  have ih:=Zz71 f g v r;rw[show putF f v ((k,x) :: r)=(if k=f then (k,v) :: r else (k,x) :: putF f v r) from rfl];by_cases hk:k=f
  .rw[if_pos hk];by_cases h:g=k
   .have hb:(g == k)=true:=Y0X.mpr h;simp only [List.lookup,hb,if_pos (h.trans hk)]
   .have hb:(g == k)=false:=Y1e.mpr h;simp only [List.lookup,hb,if_neg (λe:g=f=>h (e.trans hk.symm))]
  .rw[if_neg hk];by_cases h:g=k
   .have hb:(g == k)=true:=Y0X.mpr h;simp only [List.lookup,hb,if_neg (λe:g=f=>hk (h.symm.trans e))]
   .have hb:(g == k)=false:=Y1e.mpr h;simp only [List.lookup,hb];exact ih
theorem ZE2(f:Str)(v:V):∀ fs:List (Str × V),f∈(putF f v fs).map (·.1)/\∀ g,g∈fs.map (·.1)->g∈(putF f v fs).map (·.1)
 | []=>⟨by simp[putF],λg h=>by simp at h⟩
 | (k,x) :: r=>by
  obtain⟨i1,i2⟩:=ZE2 f v r;rw[show putF f v ((k,x) :: r)=(if k=f then (k,v) :: r else (k,x) :: putF f v r) from rfl];by_cases hk:k=f
  .rw[if_pos hk];subst hk;exact⟨by simp,λg h=>by simpa using h⟩
  .rw[if_neg hk];refine⟨?_,λg h=>?_⟩
   .rw[YU];exact Yi _ i1
   .rw[YU]at h ⊢;rcases Ye.mp h with e | e
    .exact Ye.mpr (.inl e)
    .exact Yi _ (i2 g e)
theorem Zn2(f:Str)(v:V):∀ fs:List (Str × V),(putF f v fs).length<=fs.length+1
 | []=>by simp[putF]
 | (k,x) :: r=>by
  have ih:=Zn2 f v r;rw[show putF f v ((k,x) :: r)=(if k=f then (k,v) :: r else (k,x) :: putF f v r) from rfl];by_cases hk:k=f
  .rw[if_pos hk,Yz,Yz];omega
  .rw[if_neg hk,Yz,Yz];omega
theorem RelO.some_of{v:V}{o:Option Value}(r:RelO (some v) o):∃ u,o=some u/\RelV v u:=by
 cases o with
 | none=>exact(show False from r).elim
 | some u=>exact⟨u,rfl,r⟩
theorem Zu7{v:V}{u:Value}(r:RelV v u):PySem.W.handedIn u=true:=by
 cases v with
 | non=>cases (show u=Value.none from r);rfl
 | bl b=>cases (show u=Value.bool b from r);rfl
 | int i=>obtain⟨t,e⟩:=(show ∃ t,u=Value.int i t from r);cases e;rfl
 | str x=>obtain⟨t,e⟩:=(show ∃ t,u=Value.str x t from r);cases e;rfl
 | byt b=>obtain⟨t,e⟩:=(show ∃ t,u=Value.bytes b t from r);cases e;rfl
 | flt b=>obtain⟨t,e⟩:=(show ∃ t,u=Value.float b t from r);cases e;rfl
 | ref a=>cases (show u=Value.ref a from r);rfl
 | ty n=>cases (show u=Value.type n from r);rfl
section
variable{P:Program}{w:World}{H:Hp}{h:Heap}{a C dx:Addr}{fs:List (Str × V)}
theorem Zg8(hok:HOk P w H h)(e:H a=some (.ins C dx fs)):∃ mA,ObjM h a dx C mA/\(∀ f,RelO (fs.lookup f) (mA f))/\PySem.Within mA (fs.map (·.1))/\fs.length<=1000/\H dx=some (.own a):=by obtain⟨d,z,ne,ob,mA,n,r,q⟩:=(show ObjOk P w H h a (.ins C dx fs) from hok a _ e);exact⟨mA,⟨ob,n,ne⟩,r,q,z,d⟩
end
structure Cls (K:Ad) (C:Addr):Prop where
 pg:PySem.W.plainGet K C Str.empty=true
 hd:PySem.W.hasDictIn K C=true
 po:PySem.W.plainOver K C=true
 sa:PySem.W.findIn K (.ref C) "__setattr__"=some (some (.builtin "object.__setattr__"))
theorem Cls.get{K:Ad}{C:Addr}(c:Cls K C)(f:Str):PySem.W.plainGet K C f=true:=c.pg
def NoAttr(K:Ad)(C:Addr)(f:Str):Prop:=PySem.W.findIn K (.ref C) f=some none
theorem NoAttr.taker{K:Ad}{C:Addr}{f:Str}(n:NoAttr K C f):PySem.W.takerIn K C f=some none:=by unfold PySem.W.takerIn;rw[show PySem.W.findIn K (.ref C) f=some none from n];rfl
section
variable{X:Cx}{pins:List (Addr × Obj)}{σ:St}{H:Hp}{s:Shared}{a C dx:Addr}{fs:List (Str × V)}{f:Str}{v:V}{A:Around}{E:Ae}
theorem Zm6{b:Bool}{Q:Ae}(I:Inv X pins σ H s)(e:H a=some (.ins C dx fs))(c:Cls X.K C)(n:NoAttr X.K C f)(l:fs.lookup f=some v)
  (h:∀ u s',Inv X pins σ H s'->RelV v u->Q u s'):wpAny (model X.prog X.w) A (getAttr (.ref a) f b) Q E s:=by obtain⟨mA,O,r,_,_,_⟩:=Zg8 I.hok e;obtain⟨u,hu,ru⟩:=RelO.some_of (v:=v) (o:=mA f) (by rw[<- l];exact r f);exact Zv11 I.kIn O (c.get f) c.hd n hu (Zu7 ru) (h u _ (I.tok _) ru)
theorem Zw5{y:V}{u:Value}{Q:Unit->Shared->Prop}(I:Inv X pins σ H s)(e:H a=some (.ins C dx fs))(c:Cls X.K C)(n:NoAttr X.K C f)(hl:fs.length<1000)(ry:RelV y u)
  (h:∀ s',Inv X pins σ (upd H a (.ins C dx (putF f y fs))) s'->Q () s'):wpAny (model X.prog X.w) A (setAttr (.ref a) f u) Q E s:=by
 obtain⟨mA,O,r,wi,_,ho⟩:=Zg8 I.hok e;have hz:(fs.map (·.1)).length<=sizeLine:=by rw[Yc,Y0W];omega
 refine Zw10 I.kIn O c.sa c.po n.taker c.hd wi hz λh' O' sb=>h _ ?_;have hd:∃ o,h'.get? dx=some o:=let ⟨o,_,_,e',_⟩:=O'.ns;⟨o,e'⟩
 refine I.write (x:=a) (e:=dx) (by rw[e];exact True.intro) (.inr ho) (λb q hb z=>(sb.2 b hb).trans z) hd ?_;refine⟨by rw[Zz9 O.ne];exact ho,?_,O.ne,O'.obj,_,O'.ns,λg=>?_,λg hg=>?_⟩
 .have:=Zn2 f y fs;omega
 .show RelO ((putF f y fs).lookup g) (if g=f then some u else mA g);rw[Zz71];by_cases q:g=f
  .rw[if_pos q,if_pos q];exact ry
  .rw[if_neg q,if_neg q];exact r g
 .by_cases q:g=f
  .rw[q];exact(ZE2 f y fs).1
  .refine(ZE2 f y fs).2 g (wi g λz=>hg ?_);show(if g=f then some u else mA g)=none
   rwa[if_neg q]
theorem Inv.made(I:Inv X pins σ H s):Inv X pins σ (upd (upd H s.heap.objs.size (.own (s.heap.objs.size+1))) (s.heap.objs.size+1) (.ins C s.heap.objs.size []))
  { s with heap:=(s.heap.push PySem.W.emptyDict).push (PySem.W.instObj C s.heap.objs.size) }:=by
 have e1:(s.heap.push PySem.W.emptyDict).get? s.heap.objs.size=some PySem.W.emptyDict:=Yj s.heap rfl;have e2:((s.heap.push PySem.W.emptyDict).push (PySem.W.instObj C s.heap.objs.size)).get? (s.heap.objs.size+1)=some (PySem.W.instObj C s.heap.objs.size):=by
  have:=Yj (s.heap.push PySem.W.emptyDict) (o:=PySem.W.instObj C s.heap.objs.size) rfl
  rwa [Y0n]at this
 have e3:(s.heap.push PySem.W.emptyDict).Ns s.heap.objs.size (λ_=>none):=⟨PySem.W.emptyDict,#[],_,e1,rfl,(λe he=>absurd he (by simp)),λ_=>rfl⟩;have I1:=I.laid (a:=s.heap.objs.size) (o:=.own (s.heap.objs.size+1)) (h':=s.heap.push PySem.W.emptyDict) (t':=s.toks) (λb u q=>Yy4 _ q) (Yy6 _) ⟨_,e1⟩
 refine I1.laid (a:=s.heap.objs.size+1) (o:=.ins C s.heap.objs.size []) (t':=s.toks) (λb u q=>Yy4 _ q) (Nat.le_of_eq (Y0n _ _)) ?_;have ne:s.heap.objs.size≠s.heap.objs.size+1:=Yo (Y0i _)
 refine⟨by rw[Zz9 ne,Zz1],Yl _,ne,e2,λ_=>none,(Heap.Ns1.of_empty e3).at λo q=>Yy4 _ q,λ_=>True.intro,λy hy=>absurd rfl hy⟩
theorem ZV11{prog:Program}{w:World}{env:Env}{e:Expr}{f:Str}{pos:Pos}{s:Shared}{Q:Ae}(hb:attributeBase e f env (eval e env)=eval e env)
  (h:wpAny (model prog w) A (eval e env) (λo s₁=>wpAny (model prog w) A (getAttr o f true) Q E s₁) E s):wpAny (model prog w) A (eval (.Attribute e f pos) env) Q E s :=
 Attribute_any_ h (by rw[arm_eval_Attribute,hb])
end
def tFld(K:Ad)(ta:TE)(f:Str):TE:=λσ H Q=>ta σ H λx H1=>∃ a C dx fs v,x=.ref a/\H1 a=some (.ins C dx fs)/\Cls K C/\NoAttr K C f/\fs.lookup f=some v/\Q v H1
def sFld(K:Ad)(ta tv:TE)(f:Str):TS:=λD σ H=>tv σ H λy H1=>ta σ H1 λx H2=>∃ a C dx fs,x=.ref a/\H2 a=some (.ins C dx fs)/\Cls K C/\NoAttr K C f/\fs.length<1000 /\
 D.nx σ (upd H2 a (.ins C dx (putF f y fs)))
section
variable{X:Cx}{o e value:Expr}{f:Str}{pos pos':Pos}{ta tv:TE}
theorem ZG12(he:PE X e ta)(hb:attributeBase e f X.env (eval e X.env)=eval e X.env):PE X (.Attribute e f pos) (tFld X.K ta f):=by intro pins s σ H Q I h;refine ZV11 hb (thn (he pins s σ H _ I h) λu s1 hz0=>?_);obtain⟨x,H1,I1,rx,a,C,dx,fs,v,ex,ea,c,n,l,q⟩:=hz0;subst ex;obtain rfl:u=Value.ref a:=rx;exact Zm6 I1 ea c n l λu' s2 I2 ru=>⟨v,H1,I2,ru,q⟩
theorem ZK10(ha:PE X o ta)(hv:PE X value tv)(hs:swapsWith value (some (.Attribute o f pos')) pos.line X.env=pure false):PS X (.Assign [.Attribute o f pos'] value pos) (sFld X.K ta tv f):=by intro pins s σ H D I h;refine plainObj_wpAny_Assign_Attribute (thn (hv pins s σ H _ I h) λu s1 ⟨y,H1,I1,ry,q⟩=>thn (ha pins s1 σ H1 _ I1 q) λov s2 hz0=>?_) hs;obtain⟨x,H2,I2,rx,a,C,dx,fs,ex,ea,c,n,l,q2⟩:=hz0;subst ex;obtain rfl:ov=Value.ref a:=rx;exact Zw5 I2 ea c n l ry λs3 I3=>⟨σ,_,I3,q2⟩
end
structure Room (k:Nat) (A:Around):Prop where
 hd:A.handled=none
 dp:A.depth+3 * k+5<recursionLimit
 un:A.units+16 * k+200<cLine
theorem Room.mono{j k:Nat}{A:Around}(r:Room k A)(h:j<=k):Room j A:=⟨r.hd,by have:=r.dp;omega,by have:=r.un;omega⟩
theorem Room.deeper{k:Nat}{A:Around}(r:Room (k+1) A)(env:Env):Room k (A.deeper env) :=
 ⟨r.hd,by have:=r.dp;show A.depth+1+3 * k+5<_;omega,by have:=r.un;show A.units+3+16 * k+200<_;omega⟩
theorem Room.in1{k:Nat}{A:Around}(r:Room (k+1) A):Room k A.in1 :=
 ⟨r.hd,by have:=r.dp;show A.depth+3 * k+5<_;omega,by have:=r.un;show A.units+1+16 * k+200<_;omega⟩
theorem ZY5 {A:Around} {C:Addr} {us:Ag} {kw:List (Str × Value)}:(A.under (.builtin "type.__call__" ⟨.ref C :: us,kw⟩)).depth=A.depth+1:=by
 first | rfl | simp[Around.under,Code.weight,Code.isCreation,Code.isGuard,Code.isCaller,Code.frames,Code.isFrame,guardIds]
theorem ZX5 {A:Around} {C:Addr} {us:Ag} {kw:List (Str × Value)}:(A.under (.builtin "type.__call__" ⟨.ref C :: us,kw⟩)).units=A.units+1:=by
 first | rfl | simp[Around.under,Code.cUnits,Code.frames,Code.isFrame]
theorem Room.make {k:Nat} {A:Around} (r:Room (k+1) A) (C:Addr) (us:Ag) (kw:List (Str × Value)):Room k (A.under (.builtin "type.__call__" ⟨.ref C :: us,kw⟩)) :=
 ⟨r.hd,by have:=r.dp;rw[ZY5];omega,by have:=r.un;rw[ZX5];omega⟩
theorem Room.depth{k:Nat}{A:Around}(r:Room k A):A.depth<recursionLimit:=by have:=r.dp;omega
theorem Room.units{k:Nat}{A:Around}(r:Room k A):A.units+64<cLine:=by have:=r.un;omega
def tNil:TA:=λ_ H Q=>Q [] H
def Zh12(ta:TE)(tr:TA):TA:=λσ H Q=>ta σ H λx H1=>tr σ H1 λxs H2=>Q (x :: xs) H2
section
variable{X:Cx}{e:Expr}{es:List Expr}{te:TE}{t:TA}{pos:Pos}
theorem Zz3:PA X [] tNil:=λ_ _ _ _ H Q I h=>Calls.spliced_nil ⟨[],H,I,.nil,h⟩
theorem Zz0(ha:PE X e te)(hr:PA X es t)(hs:starEach (e :: es) X.env=(false,eval e X.env) :: starEach es X.env:=by rfl):PA X (e :: es) (Zh12 te t):=by
 intro pos pins s σ H Q I h;rw[hs];show wpAny _ _ (spliced ((false,eval e X.env) :: backTo pos (starEach es X.env))) _ _ s
 refine Calls.spliced_cons (thn (ha pins s σ H _ I h) λu s1 hz0=>?_);obtain⟨x,H1,I1,r1,q1⟩:=hz0;exact thn (hr pos pins s1 σ H1 _ I1 q1) λus s2 ⟨xs,H2,I2,r2,q2⟩=>⟨x :: xs,H2,I2,.cons r1 r2,q2⟩
def tTup(t:TA):TE:=λσ H Q=>t σ H λxs H1=>xs.length<=sizeLine/\∀ p,H1 p=none->Q (.ref p) (upd H1 p (.tup xs))
def tLst(t:TA):TE:=λσ H Q=>t σ H λxs H1=>xs.length<=sizeLine/\∀ p,H1 p=none->Q (.ref p) (upd H1 p (.lst xs))
theorem ZE{x1}(h:PA X es t):PE X (.Tuple es x1 pos) (tTup t):=by
 intro pins s σ H Q I hq;refine wpAny_Tuple_spliced (thn (h pos pins s σ H _ I hq) λus s1 ⟨xs,H1,I1,r,z,q⟩=>⟨by rw[<- r.length];exact z,?_⟩);have hf:H1 s1.heap.objs.size=none:=I1.hok.fresh (Yy6 _)
 refine⟨.ref s1.heap.objs.size,upd H1 s1.heap.objs.size (.tup xs),I1.laid (t':=s1.toks) (λb u e=>Yy4 _ e) (Yy6 _) ?_,rfl,q _ hf⟩;exact⟨z,us,r,⟨_,Yj _ rfl,rfl,_,rfl⟩⟩
theorem Zz(h:PA X es t):PE X (.List es pos) (tLst t):=by
 intro pins s σ H Q I hq;refine wpAny_List_spliced (thn (h pos pins s σ H _ I hq) λus s1 ⟨xs,H1,I1,r,z,q⟩=>⟨by rw[<- r.length];exact z,?_⟩);have hf:H1 s1.heap.objs.size=none:=I1.hok.fresh (Yy6 _)
 refine⟨.ref s1.heap.objs.size,upd H1 s1.heap.objs.size (.lst xs),I1.laid (t':=s1.toks) (λb u e=>Yy4 _ e) (Yy6 _) ?_,rfl,q _ hf⟩;exact⟨z,us,0,r,Yj _ rfl⟩
end
abbrev Sp:=List V->Hp->VK->XK->Prop
abbrev CXT:=List Env->Hp->Shared->XK->Ae
structure Env0 (P:Program) (w:World) (K:Ad) (mg:Af) (base:Heap) (A:Around) (outer:List Env) (s:Shared) (H:Hp):Prop where
 frames:A.frames=some outer
 mod:Mod K mg base
 bs:∀ b o,base.get? b=some o->s.heap.get? b=some o/\H b=none
 bsz:base.objs.size<=s.heap.objs.size
 funs:s.heap.FunFrames base outer
 frf:∀ b∈frs outer,H b=none
 hok:HOk P w H s.heap
 bare:AllBare s.gens
def CE(outer:List Env)(P:Program)(w:World)(H:Hp)(s:Shared)(Q:VK)(u:Value)(s':Shared):Prop :=
 ∃ v H',s'.os=s.os/\AllBare s'.gens/\Un (frs outer) [] H H' s.heap s'.heap/\HOk P w H' s'.heap/\RelV v u/\Q v H'
def CR(CX:CXT)(outer:List Env)(P:Program)(w:World)(H:Hp)(s:Shared)(Q:VK)(E:XK)(r:Result)(s':Shared):Prop :=
 match r with
 | .ok (.ret u)=>CE outer P w H s Q u s'
 | .ok _=>False
 | .error e=>CX outer H s E e s'
structure FnOk (P:Program) (w:World) (K:Ad) (mg:Af) (base:Heap) (CX:CXT) (k:Nat) (f:Addr) (fd:FuncData) (ps:List Str) (sp:Sp):Prop where
 len:∀ vs H Q E,sp vs H Q E->vs.length=ps.length
 run:∀(A:Around) (outer:List Env) (s:Shared) (H:Hp) (args:Args) (us:Ag) (vs:List V) (Q:VK) (E:XK),Room k A->Env0 P w K mg base A outer s H->BindsTo s fd args (ps.zip us)->Vals vs us->sp vs H Q E ->
  codeAny (model P w) A (.call (.ref f) args) (CR CX outer P w H s Q E) s
theorem Env0.make{P:Program}{w:World}{K:Ad}{mg:Af}{base:Heap}{A:Around}{outer:List Env}{s:Shared}{H:Hp}(e:Env0 P w K mg base A outer s H)(C:Addr)(us:Ag)(kw:List (Str × Value)) :
  Env0 P w K mg base (A.under (.builtin "type.__call__" ⟨.ref C :: us,kw⟩)) outer s H:=⟨by first | exact e.frames | (simpa [Around.under,Code.envs,Code.isFrame,pushEnvs] using e.frames),e.mod,e.bs,e.bsz,e.funs,e.frf,e.hok,e.bare⟩
theorem Env0.in1{P:Program}{w:World}{K:Ad}{mg:Af}{base:Heap}{A:Around}{outer:List Env}{s:Shared}{H:Hp}(e:Env0 P w K mg base A outer s H) :
  Env0 P w K mg base A.in1 outer s H:=⟨e.frames,e.mod,e.bs,e.bsz,e.funs,e.frf,e.hok,e.bare⟩
section
variable{X:Cx}{pins:List (Addr × Obj)}{σ:St}{H:Hp}{s s':Shared}
theorem Inv.env0(I:Inv X pins σ H s):Env0 X.prog X.w X.K X.mg X.base X.A X.stack s H :=
 ⟨I.ok.frames,I.ok.mod,I.bs,YD I.ok.bsz I.sz,I.stack,I.stkFree,I.hok,I.bare⟩
theorem Inv.after{Q:VK}{u:Value}(I:Inv X pins σ H s)(h:CE X.stack X.prog X.w H s Q u s'):EP X pins σ Q u s':=by obtain⟨v,H',os,bare,un,hok,r,q⟩:=h;obtain⟨hh,g,d,t,os'⟩:=s';obtain rfl:os'=s.os:=os;exact⟨v,H',I.call (h':=hh) (g':=g) (d':=d) (t':=t) (ch:=[]) un hok bare (λb z=>absurd z (by simp)),r,q⟩
end
def Zo13(sp:Sp)(dvs:List V)(E:XK)(t:TA):TE:=λσ H Q=>t σ H λvs H1=>sp (vs++dvs) H1 Q E
def Zl13(C:Addr)(sp:Sp)(dvs:List V)(E:XK)(t:TA):TE:=λσ H Q=>t σ H λvs H1=>∀ x dx,H1 x=none->H1 dx=none->dx≠x ->
 sp (.ref x :: (vs++dvs)) (upd (upd H1 dx (.own x)) x (.ins C dx [])) (λv H2=>v=.non/\Q (.ref x) H2) E
def Binds(K:Ad)(fd:FuncData)(ps:List Str)(ds:Ag):Prop :=
 ∀(s:Shared) (us:Ag),K.In s.heap->(us++ds).length=ps.length->BindsTo s fd ⟨us,[]⟩ (ps.zip (us++ds))
theorem Binds.all{K:Ad}{fd:FuncData}{ps:List Str}(h:∀ us:Ag,us.length=ps.length->bindArgs fd ⟨us,[]⟩=pure (ps.zip us)):Binds K fd ps []:=λs us _ hl=>by rw[YO]at hl ⊢;exact .of_eq (h us hl)
def ZR3(CX:CXT)(X:Cx)(E:XK):Prop:=∀(pins:List (Addr × Obj)) (σ:St) (H:Hp) (s:Shared) (e:Value) (s':Shared),Inv X pins σ H s->CX X.stack H s E e s'->X.xe e s'
section
variable{X:Cx}{CX:CXT}{k:Nat}{f C:Addr}{fd:FuncData}{ps:List Str}{sp:Sp}{dvs:List V}{ds:Ag}{E:XK}{x:Str}{p pos:Pos}{e:Expr}{es:List Expr}{t:TA}
theorem Zp12{pins:List (Addr × Obj)}{σ:St}{H:Hp}{s:Shared}{Q:VK}{us:Ag}{vs:List V}(F:FnOk X.prog X.w X.K X.mg X.base CX k f fd ps sp)(hr:Room k X.A)(hb:Binds X.K fd ps ds)(hd:Vals dvs ds)(hx:ZR3 CX X E)
  (I:Inv X pins σ H s) (r:Vals vs us) (h:sp (vs++dvs) H Q E):wpAny (model X.prog X.w) X.A (call (.ref f) us) (EP X pins σ Q) X.xe s:=by
 have r2:Vals (vs++dvs) (us++ds):=r.append hd;have hl:(us++ds).length=ps.length:=by rw[<- r2.length];exact F.len _ _ _ _ h
 refine Y3q (Y1l (F.run X.A X.stack s H ⟨us,[]⟩ (us++ds) (vs++dvs) Q E hr I.env0 (hb s us I.kIn hl) r2 h) λr s' hq=>?_);cases r with
 | error e=>exact hx pins σ H s e s' I hq
 | ok fl =>
  cases fl with
  | ret u=>exact I.after hq
  | next=>exact False.elim hq
  | brk=>exact False.elim hq
  | cont=>exact False.elim hq
theorem Za(F:FnOk X.prog X.w X.K X.mg X.base CX k f fd ps sp)(hr:Room k X.A)(hg:Gl X x)(hm:X.mg x=some (.ref f))(hk:PySem.W.keepIn X.K (.ref f)=true)(hb:Binds X.K fd ps ds)(hd:Vals dvs ds)(hx:ZR3 CX X E)
  (ha:PA X (e :: es) t) (hdb:(x == ("__debug__":Str))=false:=by decide) (he:starEach (e :: es) X.env=(false,eval e X.env) :: starEach es X.env:=by rfl) (hpl:(backTo pos (starEach es X.env)).any (·.1)=false:=by rfl) :
  PE X (.Call (.Name x p) (e :: es) [] pos) (Zo13 sp dvs E t):=by intro pins s σ H Q I h;refine Y0E (Zz73 I hg hm ?_ hdb);refine Y2u (h₀:=X.base) I.ok.mod.kin hk (thn (ha pos pins s σ H _ I h) λus s1 ⟨vs,H1,I1,r,q⟩=>⟨I1.kIn,?_⟩) he hpl;exact Zp12 F hr hb hd hx I1 r q
structure Mk (K:Ad) (C f:Addr):Prop where
 makes:PySem.W.makesIn K C=true
 init:PySem.W.findIn K (.ref C) "__init__"=some (some (.ref f))
 fn:PySem.W.isFn K (.ref f)=true
 kp:PySem.W.keepIn K (.ref C)=true
theorem ZW8{pins:List (Addr × Obj)}{σ:St}{H:Hp}{s:Shared}{Q:VK}{us:Ag}{vs:List V}(M:Mk X.K C f)(F:FnOk X.prog X.w X.K X.mg X.base CX k f fd ps sp)(hr:Room (k+1) X.A)(hb:Binds X.K fd ps ds)(hd:Vals dvs ds)
  (hx:ZR3 CX X E) (I:Inv X pins σ H s) (r:Vals vs us)
  (h:∀ x dx,H x=none->H dx=none->dx≠x->sp (.ref x :: (vs++dvs)) (upd (upd H dx (.own x)) x (.ins C dx [])) (λv H2=>v=.non/\Q (.ref x) H2) E) :
  wpAny (model X.prog X.w) X.A (call (.ref C) us) (EP X pins σ Q) X.xe s:=by
 have hq:=h (s.heap.objs.size+1) s.heap.objs.size (I.hok.fresh (Y0P _)) (I.hok.fresh (Yy6 _)) (Yo (Y0i _));have I2:=Inv.made (C:=C) I
 have r2:Vals (V.ref (s.heap.objs.size+1) :: (vs++dvs)) (Value.ref (s.heap.objs.size+1) :: (us++ds)):=.cons rfl (r.append hd);have hl:(Value.ref (s.heap.objs.size+1) :: us++ds).length=ps.length:=by have e:=r2.length;rw[F.len _ _ _ _ hq]at e;exact e.symm
 refine Y3q (Zo9 (f:=f) I.kIn M.makes M.init (Y0X.mp M.fn) (Y1l (F.run _ X.stack _ _ ⟨Value.ref (s.heap.objs.size+1) :: us,[]⟩ (Value.ref (s.heap.objs.size+1) :: (us++ds)) _ _ E (hr.make C us [])
  (I2.env0.make C us []) (hb _ (Value.ref (s.heap.objs.size+1) :: us) I2.kIn hl) r2 hq) λr s' hq'=>?_))
 cases r with
 | error e=>exact hx pins σ _ _ e s' I2 hq'
 | ok fl =>
  cases fl with
  | ret u =>
   obtain⟨v,H',I3,rv,ev,q3⟩:=I2.after hq';subst ev;exact⟨rv,⟨V.ref (s.heap.objs.size+1),H',I3,rfl,q3⟩⟩
  | next=>exact False.elim hq'
  | brk=>exact False.elim hq'
  | cont=>exact False.elim hq'
theorem Zz28(M:Mk X.K C f)(F:FnOk X.prog X.w X.K X.mg X.base CX k f fd ps sp)(hr:Room (k+1) X.A)(hg:Gl X x)(hm:X.mg x=some (.ref C))(hb:Binds X.K fd ps ds)(hd:Vals dvs ds)(hx:ZR3 CX X E)
  (ha:PA X (e :: es) t) (hdb:(x == ("__debug__":Str))=false:=by decide) (he:starEach (e :: es) X.env=(false,eval e X.env) :: starEach es X.env:=by rfl) (hpl:(backTo pos (starEach es X.env)).any (·.1)=false:=by rfl) :
  PE X (.Call (.Name x p) (e :: es) [] pos) (Zl13 C sp dvs E t):=by intro pins s σ H Q I h;refine Y0E (Zz73 I hg hm ?_ hdb);refine Y2u (h₀:=X.base) I.ok.mod.kin M.kp (thn (ha pos pins s σ H _ I h) λus s1 ⟨vs,H1,I1,r,q⟩=>⟨I1.kIn,?_⟩) he hpl;exact ZW8 M F hr hb hd hx I1 r q
end
structure FnScope (N P:List Str) (sc:Scope):Prop where
 kind:sc.kind=.function
 co:sc.isCoroutine=false
 gen:sc.isGenerator=false
 nd:N.Nodup
 pre:N.take P.length=P
 par:∀ x∈P,sc.names.lookup x=some .local\/sc.names.lookup x=some .cell
 nofree:∀ y∈sc.names,y.2≠.free
theorem ZH4{kindOf:Str->Option NameKind}{x:Str}:∀ {binds:List (Str × Value)} {m:Af},(∀ v,(x,v)∉binds)->bindL kindOf binds m x=m x
 | [],_,_=>rfl
 | (n,v) :: r,m,h=>by
  unfold bindL;rw[ZH4 λw hw=>h w (Yi _ hw)];split
  .have:x≠n:=by rintro rfl;exact h v Yk
   simp[this]
  .rfl
theorem ZJ4{kindOf:Str->Option NameKind}{x:Str}:∀ {binds:List (Str × Value)} {m:Af},(∀ v,(x,v)∉binds)->bindC kindOf binds m x=m x
 | [],_,_=>rfl
 | (n,v) :: r,m,h=>by
  unfold bindC;rw[ZJ4 λw hw=>h w (Yi _ hw)];split
  .rfl
  .have:x≠n:=by rintro rfl;exact h v Yk
   simp[this]
theorem ZI4{kindOf:Str->Option NameKind}{x:Str}{v:Value}:∀ {P:List Str} {vs:Ag} {i:Nat} {m:Af},P.Nodup->P[i]?=some x->vs[i]?=some v->kindOf x=some .local ->
  bindL kindOf (P.zip vs) m x=some v
 | [],_,_,_,_,h,_,_=>by simp at h
 | _ :: _,[],_,_,_,_,h,_=>by simp at h
 | p :: P,w :: vs,0,m,nd,h1,h2,hk=>by
  simp at h1 h2;subst h1;subst h2;show bindL kindOf ((p,w) :: P.zip vs) m p=_
  unfold bindL;rw[ZH4 λv hv=>(Y0p.mp nd).1 (Yy33 hv).1,if_pos hk];simp
 | p :: P,w :: vs,i+1,m,nd,h1,h2,hk=>by show bindL kindOf ((p,w) :: P.zip vs) m x=_;unfold bindL;exact ZI4 (i:=i) (Y0p.mp nd).2 (by simpa using h1) (by simpa using h2) hk
theorem ZK4{kindOf:Str->Option NameKind}{x:Str}{v:Value}:∀ {P:List Str} {vs:Ag} {i:Nat} {m:Af},P.Nodup->P[i]?=some x->vs[i]?=some v->kindOf x≠some .local ->
  bindC kindOf (P.zip vs) m x=some v
 | [],_,_,_,_,h,_,_=>by simp at h
 | _ :: _,[],_,_,_,_,h,_=>by simp at h
 | p :: P,w :: vs,0,m,nd,h1,h2,hk=>by
  simp at h1 h2;subst h1;subst h2;show bindC kindOf ((p,w) :: P.zip vs) m p=_
  unfold bindC;rw[ZJ4 λv hv=>(Y0p.mp nd).1 (Yy33 hv).1,if_neg hk];simp
 | p :: P,w :: vs,i+1,m,nd,h1,h2,hk=>by show bindC kindOf ((p,w) :: P.zip vs) m x=_;unfold bindC;exact ZK4 (i:=i) (Y0p.mp nd).2 (by simpa using h1) (by simpa using h2) hk
def start(N:List Str)(vs:List V):St:=vs.map some++List.replicate (N.length - vs.length) none
def cxOf(CX:CXT)(P:Program)(w:World)(K:Ad)(mg:Af)(base:Heap)(N:List Str)(qual:Str)(scope:Scope)(f:Addr)(cd:Value)(A:Around)(outer:List Env)(s:Shared)(H:Hp)(E:XK):Cx where
 prog:=P
 w:=w
 K:=K
 mg:=mg
 base:=base
 A:=A.deeper (envOfC qual scope s.heap.objs.size f cd)
 N:=N
 s₀:=s
 H₀:=H
 env:=envOfC qual scope s.heap.objs.size f cd
 outer:=outer
 stack:=envOfC qual scope s.heap.objs.size f cd :: outer
 ex:=[]
 calm:=true
 fn:=λ_=>true
 pn:=[]
 xe:=λe s'=>wpAny (model P w) (A.deeper (envOfC qual scope s.heap.objs.size f cd)) (leaving (envOfC qual scope s.heap.objs.size f cd) e) (λ_ s''=>CX outer H s E e s'') (λe' s''=>CX outer H s E e' s'') s'
theorem ZR6{sc:Scope}{n:Nat}{x:Str}(h:sc.names.lookup x=some .cell):∃ c,(cellsFrom n sc.names []).lookup x=some c:=by have q:=Y3u sc.names n [] (.inl h);exact Yy21.mp q
theorem Zq7{CX:CXT}{P:Program}{w:World}{K:Ad}{mg:Af}{base:Heap}{N ps:List Str}{qual:Str}{scope:Scope}{f:Addr}{cd:Value}{A:Around}{outer:List Env}{s s1:Shared}{H:Hp}{E:XK}{us:Ag}{vs:List V}
  (S:FnScope N ps scope) (hd:A.handled=none) (e0:Env0 P w K mg base A outer s H) (hl:vs.length=ps.length) (r:Vals vs us)
  (x:InCallC s s.heap.objs.size (bindL (envOfC qual scope s.heap.objs.size f cd).kindOf (ps.zip us) λ_=>none) (cellsFrom (s.heap.objs.size+1) scope.names []) (bindC (envOfC qual scope s.heap.objs.size f cd).kindOf (ps.zip us) λ_=>none) s1) :
  Inv (cxOf CX P w K mg base N qual scope f cd A outer s H E) [] (start N vs) H s1:=by
 have hpl:ps.length<=N.length:=by have:=YZ List.length S.pre;rw[YI]at this;omega
 obtain⟨h1,tk,rfl,hk⟩:=x.done;have noA:∀ b:Addr,b∉(cxOf CX P w K mg base N qual scope f cd A outer s H E).ex:=λb z=>absurd (show b∈([]:List Addr) from z) (by simp)
 refine⟨⟨e0.mod,S.kind,rfl,rfl,Yy6 _,λy z c h1 h2=>?_,λy hy=>?_,λy c _ h=>?_,λ_=>hd,Around.frames_deeper e0.frames,.inr ⟨rfl,rfl⟩,λb z=>absurd z (noA b),e0.bs,e0.bsz,λb _ _=>noA b,λb z=>absurd z (noA b),e0.funs,e0.frf⟩,
  rfl,e0.bare,Un.kept hk,⟨_,x.toInCall.ns,λi y v h1 h2 h3=>?_⟩,λy c h=>⟨_,x.cell y c h⟩,e0.hok.fresh (Yy6 _),λy c h=>?_,λp hp=>absurd (show p∈([]:List (Addr × Obj)) from hp) (by simp),e0.hok.kept hk,?_⟩
 .exact name_of_addr x.apart (Y0H h1) (Y0H h2)
 .have hy:scope.names.lookup y=some .cell\/scope.names.lookup y=some .free:=hy;rcases hy with hy | hy
  .exact ZR6 hy
  .exact absurd rfl (S.nofree _ (Y0H hy))
 .exact Y1J (x.above y c (Y0H h))
 .have hi:i<vs.length:=by
   unfold start at h2;by_cases hi:i<vs.length
   .exact hi
   .rw[Yv (by simpa using hi)]at h2;rw[Y1n]at h2;split at h2 <;> cases h2
  have ha:vs[i]?=some v:=by
   unfold start at h2;rw[Yu (by simpa using hi),Yp]at h2;cases e:vs[i]? with
   | none=>rw[e]at h2;cases h2
   | some a=>rw[e]at h2;cases h2;rfl
  obtain⟨u,hu,rv⟩:=r.get ha;have hp:ps[i]?=some y:=by rwa[<- S.pre,List.getElem?_take_of_lt (by omega)]
  have ndP:ps.Nodup:=by rw[<- S.pre];exact S.nd.sublist (Y1y _ _)
  refine⟨u,rv,?_⟩;rcases S.par y (Yy8 hp) with k | k
  .exact .inl ⟨k,ZI4 ndP hp hu k⟩
  .obtain⟨c,e⟩:=ZR6 (n:=s.heap.objs.size+1) k;refine .inr ⟨.inl k,c,e,?_⟩;have q:=x.cell y c e
   rwa[ZK4 ndP hp hu (by show scope.names.lookup y≠_;rw[k];decide)]at q
 .exact e0.hok.fresh (Y1J (x.above y c (Y0H h)))
 .unfold start;show _=N.length
  rw[Yy5,Yc,YF];omega
theorem ZW12{CX:CXT}{P:Program}{w:World}{K:Ad}{mg:Af}{base:Heap}{k:Nat}{f:Addr}{name qual:Str}{params:Arguments}{body:List Stmt}{scope:Scope}{dV kV doc pm cdv ct oc:Value}{an od:Option Addr}
  {osl:Array (Option Value)} {N ps:List Str} {sp:Sp} (lk:K.lookup f=some ⟨oc,od,.func (PySem.W.fnOf name qual params body scope dV kV doc pm an cdv ct),osl⟩) (hcd:PySem.W.codeIn K cdv qual=true) (S:FnScope N ps scope)
  (len:∀ vs H Q E,sp vs H Q E->vs.length=ps.length)
  (hbody:∀(A:Around) (outer:List Env) (s:Shared) (H:Hp) (vs:List V) (Q:VK) (E:XK),Room k (A.deeper (envOfC qual scope s.heap.objs.size f cdv))->sp vs H Q E ->
   ∃ t,PSs (cxOf CX P w K mg base N qual scope f cdv A outer s H E) body t/\t { nx:=λ_ H'=>Q .non H',rt:=Q } (start N vs) H) :
  FnOk P w K mg base CX (k+1) f (PySem.W.fnOf name qual params body scope dV kV doc pm an cdv ct) ps sp:=by
 refine⟨len,λA outer s H args us vs Q E hr e0 hb r hsp=>?_⟩;have hl:=len _ _ _ _ hsp
 have KX:K.In s.heap:=e0.mod.kin.keeps λb o e=>(e0.bs b o e).1;have lim:s.heap.NoLimit:=e0.mod.nolimit.keeps λb o e=>(e0.bs b o e).1
 have hkind:∀ y∈ps.zip us,scope.names.lookup y.1=some .local\/(scope.names.lookup y.1=some .cell/\((cellsFrom (s.heap.objs.size+1) scope.names []).lookup y.1).isSome=true):=λ⟨n,v⟩ hy=>by
  rcases S.par n (Yy33 hy).1 with q | q
  .exact .inl q
  .exact .inr ⟨q,Y3u _ _ _ (.inl q)⟩
 refine codeAny_call_function hr.depth (KX _ _ lk) rfl S.co S.gen rfl (PySem.W.codeRec_of KX hcd) (hb _ _ _ _ ?_);refine wpAny_newFunctionEnv_cells S.kind hkind λenv he s1 x=>?_;subst he;refine⟨lim.keeps x.toInCall.keep,codeAny_func ?_⟩;obtain⟨t,ht,hq⟩:=hbody A outer s H vs Q E (hr.deeper _) hsp;have I:Inv (cxOf CX P w K mg base N qual scope f cdv A outer s H E) [] (start N vs) H s1:=Zq7 S hr.hd e0 hl r x
 refine Y0x (ht [] s1 (start N vs) H _ I hq) (λfl s' hs=>?_) λe s' hs=>hs;have fin:∀ {σ':St} {H':Hp} {v:V} {u:Value},Inv (cxOf CX P w K mg base N qual scope f cdv A outer s H E) [] σ' H' s'->RelV v u->Q v H'->CE outer P w H s Q u s' :=
  λ{σ' H' v u} J rv q=>⟨v,H',J.os,J.bare,J.base,J.hok,rv,q⟩
 cases fl with
 | ret u =>
  obtain⟨v,σ',H',J,rv,q⟩:=hs;exact fin J rv q
 | next =>
  obtain⟨σ',H',J,q⟩:=hs;exact fin (v:=V.non) (u:=Value.none) J rfl q
 | brk =>
  obtain⟨_,_,_,q⟩:=hs;exact False.elim q
 | cont =>
  obtain⟨_,_,_,q⟩:=hs;exact False.elim q
section
variable{X:Cx}{x:Str}{p pos:Pos}{e:Expr}{es:List Expr}{t:TA}{id T:String}{r:List V->Hp->VK->Prop}
def tCB(r:List V->Hp->VK->Prop)(t:TA):TE:=λσ H Q=>t σ H λvs H1=>r vs H1 Q
theorem Zd (hc:Zg2 X (.builtin id) r) (hg:Gl X x) (hm:X.mg x=none) (hv:bootBuiltins x=some (.builtin id)) (ha:PA X (e :: es) t) (hn:x≠"__name__":=by decide) (hdb:(x == ("__debug__":Str))=false:=by decide)
  (he:starEach (e :: es) X.env=(false,eval e X.env) :: starEach es X.env:=by rfl) (hpl:(backTo pos (starEach es X.env)).any (·.1)=false:=by rfl):PE X (.Call (.Name x p) (e :: es) [] pos) (tCB r t):=by intro pins s σ H Q I h;refine Y0E (Zz62 I hg hm hv ?_ hn hdb);exact Y2I (thn (ha pos pins s σ H _ I h) λus s1 ⟨vs,H1,I1,r1,q1⟩=>hc pins s1 σ H1 vs us Q I1 r1 q1) he hpl
theorem Zn (hc:Zg2 X (.type T) r) (hg:Gl X x) (hm:X.mg x=none) (hv:bootBuiltins x=some (.type T)) (ha:PA X (e :: es) t) (hn:x≠"__name__":=by decide) (hdb:(x == ("__debug__":Str))=false:=by decide)
  (he:starEach (e :: es) X.env=(false,eval e X.env) :: starEach es X.env:=by rfl) (hpl:(backTo pos (starEach es X.env)).any (·.1)=false:=by rfl):PE X (.Call (.Name x p) (e :: es) [] pos) (tCB r t):=by intro pins s σ H Q I h;refine Y0E (Zz62 I hg hm hv ?_ hn hdb);exact Y0c (thn (ha pos pins s σ H _ I h) λus s1 ⟨vs,H1,I1,r1,q1⟩=>hc pins s1 σ H1 vs us Q I1 r1 q1) he hpl
end
end L2
namespace HT
open PySem PyProof.Rows
def lexLt:Ac->Ac->Bool
 | [],[]=>false
 | [],_ :: _=>true
 | _ :: _,[]=>false
 | x :: xs,y :: ys=>if x=y then lexLt xs ys else decide (x<y)
theorem lexLt_cons(x y:Int)(xs ys:Ac):lexLt (x :: xs) (y :: ys)=if x=y then lexLt xs ys else decide (x<y):=rfl
theorem Zz63:lexLt [] []=false:=rfl
theorem Yz2(y:Int)(ys:Ac):lexLt [] (y :: ys)=true:=rfl
theorem ZA2(x:Int)(xs:Ac):lexLt (x :: xs) []=false:=rfl
theorem ZM9(A:Around)(s:Shared)(a:Int)(t:Tok)(c:Int)(u:Tok):∃ e,SeqAt.EqAt A s (.int a t) (.int c u) e/\(e=true↔a=c) :=
 ⟨(a == c),Yy18 a t c u,by simp⟩
theorem ZB5(A:Around)(s:Shared)(a:Int)(t:Tok)(c:Int)(u:Tok)(prog:Program)(w:World)(E:Ae)(Q:Ae)(h:Q (.bool (decide (a<c))) s) :
  wpAny (model prog w) A (richCompare .Lt (.int a t) (.int c u)) Q E s :=
 (PyProof.Rows.lt_int h:wpAny (model prog w) A (compareOp .Lt (.int a t) (.int c u)) Q E s)
section
open PySem.SeqAt
open PySem.AutoSeq1 (wpAny_loadPart')
open PySem.MeetsSeq PySem.MeetsSeq2 PySem.MeetsSeq3
theorem ZU2(l b:Addr)(items items2:Array Value)(n n2:Nat)(dd dd2:Option Addr)(sl sl2:Array (Option Value))(ns ms:Ac)(hi:IntsAre items.toList ns)(hj:IntsAre items2.toList ms) :
  Meets (Builtin.«tuple.__lt__» ⟨[.ref l,.ref b],[]⟩)
   (λ_ R s=>s.heap.get? l=some { cls:=.type "tuple",dict:=dd,data:=.seq items n,slots:=sl }/\s.heap.get? b=some { cls:=.type "tuple",dict:=dd2,data:=.seq items2 n2,slots:=sl2 } /\
    R (.ok (.ret (.bool (lexLt ns ms)))) s) :=
 .of_wp λprog w A R s h=>by
  obtain⟨hp,g,d,tk,os⟩:=s;obtain⟨hl,hb,h⟩:=h;have f2:=AutoSeq1.sub_tuple_tuple
  have z1:items.size=ns.length:=by rw[<- hi.length];simp
  have z2:items2.size=ms.length:=by rw[<- hj.length];simp
  wp_walk using Y0Z hl,Y0Z hb,wpAny_forIn_list _ (λrest b s'=>b.1=none/\s'=⟨hp,g,d,tk,os⟩/\∃(vs ws:Ag) (ns' ms':Ac),rest=vs.zip ws /\
   IntsAre vs ns'/\IntsAre ws ms'/\ns'.length+items2.size=ms'.length+items.size/\R (.ok (.ret (.bool (lexLt ns' ms')))) ⟨hp,g,d,tk,os⟩) _
  case turn =>
   rintro⟨y,x⟩ rest b s' ⟨hb',rfl,vs,ws,ns',ms',hz,hvi,hwi,hlen,hR⟩;cases hvi with
   | nil=>rw[List.zip_nil_left]at hz;cases hz
   | cons a t hvi' =>
    cases hwi with
    | nil=>rw[List.zip_nil_right]at hz;cases hz
    | cons c u hwi' =>
     rw[List.zip_cons_cons]at hz;injection hz with hyx hrest
     injection hyx with hy hx;subst hy hx;rw[lexLt_cons]at hR;simp only [Yz]at hlen;obtain⟨e,he,hiff⟩:=ZM9 A.in1 ⟨hp,g,d,tk,os⟩ a t c u;refine Yy0 (he prog w _ _ ?_);cases e with
     | true =>
      rw[if_pos (hiff.mp rfl)]at hR
      wp_walk
      exact⟨rfl,rfl,_,_,_,_,hrest,hvi',hwi',by omega,hR⟩
     | false =>
      rw[if_neg (λq=>absurd (hiff.mpr q) Yq)]at hR;have hri:=ZB5 A.in1 ⟨hp,g,d,tk,os⟩ a t c u prog w
      wp_walk using hri
      exact⟨_,rfl,by simpa using hR⟩
  case fin =>
   rintro⟨b1,b2⟩ s' ⟨hb',rfl,vs,ws,ns',ms',hz,hvi,hwi,hlen,hR⟩;simp only at hb';subst hb';have hv:lexLt ns' ms'=decide (items.size<items2.size):=by
    cases hvi with
    | nil =>
     cases hwi with
     | nil =>
      simp only [Yy12]at hlen;rw[Zz63];exact(YT (by omega)).symm
     | cons c u hw =>
      simp only [Yy12,Yz]at hlen;rw[Yz2];exact(Yt (by omega)).symm
    | cons a t hv =>
     cases hwi with
     | nil =>
      simp only [Yy12,Yz]at hlen;rw[ZA2];exact(YT (by omega)).symm
     | cons c u hw =>
      rw[List.zip_cons_cons]at hz;cases hz
   rw[hv]at hR
   wp_walk
   exact⟨_,rfl,by simpa [Builtin.Tuple.tupleCompareSizes] using hR⟩
  case h =>
   exact⟨rfl,rfl,items.toList,items2.toList,ns,ms,rfl,hi,hj,by omega,h⟩
end
section
variable{prog:Program}{w:World}{A:Around}{E:Ae}{s:Shared}
theorem Zz06{l b:Addr}{items items2:Array Value}{ns ms:Ac}{Q:Ae}(hl:IsTup s.heap l items)(hb:IsTup s.heap b items2)(hi:IntsAre items.toList ns)(hj:IntsAre items2.toList ms)
  (hu:A.units<cLine) (h:Q (.bool (lexLt ns ms)) s):wpAny (model prog w) A (compareOp .Lt (.ref l) (.ref b)) Q E s:=by
 obtain⟨⟨cls,dd,data,sl⟩,ho,hc,n,hd⟩:=id hl;obtain⟨⟨cls2,dd2,data2,sl2⟩,ho2,hc2,n2,hd2⟩:=id hb;simp only at hc hd hc2 hd2;subst hc hd hc2 hd2;exact richCompare_meets_room (op:=.Lt) ⟨_,ho,rfl⟩ ⟨_,ho2,rfl⟩ Y3z Y3v (Y3n _ _) (ZU2 l b items items2 n n2 dd dd2 sl sl2 ns ms hi hj)
  ⟨ho,ho2,show Value.bool (lexLt ns ms)≠Value.notImplemented/\Q (.bool (lexLt ns ms)) s from⟨(λx=>nomatch x),h⟩⟩ hu
theorem cat_tup{t b:Addr}{vs ws:Ag}{Q:Ae}(ht:IsTup s.heap t vs.toArray)(hb:IsTup s.heap b ws.toArray)(hv:vs≠[])
  (h1:ws=[]->Q (.ref t) s) (h2:ws≠[]->Q (.ref s.heap.objs.size) { s with heap:=s.heap.push { cls:=.type "tuple",data:=.seq (vs++ws).toArray } })
  (hsz:vs.length+ws.length<=sizeLine):wpAny (model prog w) A (binaryOp .Add (.ref t) (.ref b)) Q E s:=by
 obtain⟨⟨cls,dd,data,sl⟩,ho,hc,n,hd⟩:=id ht;obtain⟨⟨cls2,dd2,data2,sl2⟩,ho2,hc2,n2,hd2⟩:=id hb;simp only at hc hd hc2 hd2;subst hc hd hc2 hd2;have e:vs.toArray++ws.toArray=(vs++ws).toArray:=by simp
 by_cases hw:ws=[]
 .exact Y3s ⟨_,ho,rfl⟩ ⟨_,ho2,rfl⟩ Y3r seq_tuple_add Y2b Yy27 (Yy20 _ _)
   (tuple_addW1 t b vs.toArray ws.toArray n n2 dd dd2 sl sl2 (by simpa using hv) (by simp[hw])) ⟨ho,ho2,h1 hw⟩
 .refine Y3s ⟨_,ho,rfl⟩ ⟨_,ho2,rfl⟩ Y3r seq_tuple_add Y2b Yy27 (Yy20 _ _)
   (tuple_addW2 t b vs.toArray ws.toArray n n2 dd dd2 sl sl2 (by simpa using hv) (by simpa using hw) (by rwa[Yy9,Yy9])) ⟨ho,ho2,?_⟩
  rw[e];exact h2 hw
def sIx(n d:Nat):Option Int->Nat
 | none=>d
 | some v=>if v<0 then (v+(n:Int)).toNat else min v.toNat n
theorem sIx_none(n d:Nat):sIx n d none=d:=rfl
end
end HT
namespace L2
open PySem PySem.Spec PyProof.Rows
abbrev TO:=St->Hp->(Option Int->Hp->Prop)->Prop
def PO(X:Cx)(e:Option Expr)(t:TO):Prop :=
 ∀(pins:List (Addr × Obj)) (s:Shared) (σ:St) (H:Hp) (Q:Option Int->Hp->Prop),Inv X pins σ H s->t σ H Q ->
  wpAny (model X.prog X.w) X.A (evalPart e X.env) (λu s'=>∃ o H',Inv X pins σ H' s'/\IsPart u o/\Q o H') X.xe s
def Zo10:TO:=λ_ H Q=>Q none H
def Zi13(t:TE):TO:=λσ H Q=>t σ H λx H1=>∃ i,x=.int i/\Q (some i) H1
section
variable{X:Cx}{e:Expr}{te:TE}{lo hi:Option Expr}{tl th:TO}{pos p2:Pos}
theorem ZH1:PO X none Zo10:=by intro pins s σ H Q I h;rw[evalPart_none];exact Yf ⟨none,H,I,.none,h⟩
theorem ZG1(h:PE X e te):PO X (some e) (Zi13 te):=by intro pins s σ H Q I hw;rw[evalPart_some];refine thn (h pins s σ H _ I hw) λu s1 hz0=>?_;obtain⟨x,H1,I1,r1,q1⟩:=hz0;obtain⟨i,rfl,q⟩:=q1;obtain⟨t,rfl⟩:=r1;exact⟨some i,H1,I1,.int i t,q⟩
def SlR(X:Cx)(r:V->Option Int->Option Int->Hp->VK->Prop):Prop :=
 ∀(pins:List (Addr × Obj)) (s:Shared) (σ:St) (H:Hp) (x:V) (v vl vu:Value) (lo hi:Option Int) (sl:Addr) (Q:VK),Inv X pins σ H s->RelV x v->s.heap.IsSliceOf sl vl vu .none->IsPart vl lo->IsPart vu hi->r x lo hi H Q ->
  ∃ T id,typeLookup (.type T) "__getitem__"=pure (some (.builtin id))/\s.TypeIs v T/\wpAny (model X.prog X.w) X.A (getItem v (.ref sl)) (EP X pins σ Q) X.xe s
def tSl(r:V->Option Int->Option Int->Hp->VK->Prop)(te:TE)(tl th:TO):TE:=λσ H Q=>te σ H λx H1=>tl σ H1 λl H2=>th σ H2 λu H3=>r x l u H3 Q
theorem Zh1{r:V->Option Int->Option Int->Hp->VK->Prop}(hr:SlR X r)(he:PE X e te)(hl:PO X lo tl)(hu:PO X hi th):PE X (.Subscript e (.Slice lo hi none p2) pos) (tSl r te tl th):=by
 intro pins s σ H Q I h;refine Subscript_ (thn (he pins s σ H _ I h) λv s1 hz0=>?_);obtain⟨x,H1,I1,r1,q1⟩:=hz0;refine wpAny_Slice (thn (hl pins s1 σ H1 _ I1 q1) λvl s2 ⟨l,H2,I2,pl,q2⟩=>thn (hu pins s2 σ H2 _ I2 q2) λvu s3 hz0=>?_);obtain⟨u,H3,I3,pu,q3⟩:=hz0;rw[evalPart_none];refine Yf ?_;have I4:Inv X pins σ H3 { s3 with heap:=s3.heap.push { cls:=.type "slice",data:=.fields #[vl,vu,.none] } }:=I3.kept (t':=s3.toks) λb ob q=>Yy4 _ q
 obtain⟨T,id,hT,ht,hg⟩:=hr pins { s3 with heap:=s3.heap.push { cls:=.type "slice",data:=.fields #[vl,vu,.none] } } σ H3 x v vl vu l u s3.heap.objs.size Q I4 r1 (Heap.IsSliceOf.new ..) pl pu q3;show wpAny (model X.prog X.w) X.A (subscriptTail e (.Slice lo hi none p2) v (.ref s3.heap.objs.size)) (EP X pins σ Q) X.xe { s3 with heap:=s3.heap.push { cls:=.type "slice",data:=.fields #[vl,vu,.none] } }
 exact tail_any (ops:=[.ref s3.heap.objs.size,v]) ht hT hg (by with_unfolding_all rfl)
def cutV(xs:List V)(lo hi:Option Int):List V:=(xs.drop (HT.sIx xs.length 0 lo)).take (HT.sIx xs.length xs.length hi - HT.sIx xs.length 0 lo)
theorem ZD1(xs:List V)(lo hi:Option Int):(cutV xs lo hi).length<=xs.length:=by unfold cutV;rw[YI,Y1g];omega
def Zz813(K:Ad):R2:=λx y H Q=>∃ a b xs ys,x=.ref a/\y=.ref b/\SqT K H a xs/\SqT K H b ys/\xs≠[]/\xs.length+ys.length<=sizeLine /\
 (ys=[]->Q (.ref a) H)/\(ys≠[]->∀ p,H p=none->Q (.ref p) (upd H p (.tup (xs++ys))))
theorem Vals.nil_iff{xs:List V}{us:Ag}(r:Vals xs us):us=[]↔xs=[]:=by
 cases r with
 | nil=>simp
 | cons _ _=>simp
theorem ZZ10:OpR X (binaryOp .Add) (Zz813 X.K):=by intro pins s σ H x y v u Q I rx ry h;obtain⟨a,b,xs,ys,rfl,rfl,ha,hb,hx,hz,q1,q2⟩:=h;cases rx;cases ry;obtain⟨its,r1,p1,_⟩:=I.tuple ha;obtain⟨its2,r2,p2,_⟩:=I.tuple hb;refine HT.cat_tup p1 p2 (λz=>hx (r1.nil_iff.mp z)) (λz=>⟨.ref a,H,I,rfl,q1 (r2.nil_iff.mp z)⟩) (λz=>?_) (by rwa[<- r1.length,<- r2.length]);refine⟨.ref s.heap.objs.size,_,I.laid (t':=s.toks) (o:=.tup (xs++ys)) (λb ob q=>Yy4 _ q) (Yy6 _) ?_,rfl,q2 (λw=>z (r2.nil_iff.mpr w)) _ (I.hok.fresh (Yy6 _))⟩;exact⟨by rw[Yy5];exact hz,_,r1.append r2,IsTup.new _ _⟩
end
def ixN(n:Nat)(i:Int):Option Nat:=if 0<=i then (if i<n then some i.toNat else none) else if -(n:Int)<=i then some (i+n).toNat else none
def atI{α:Type}(xs:List α)(i:Int):Option α:=(ixN xs.length i).bind λj=>xs[j]?
theorem Ze8{n:Nat}{i:Int}{j:Nat}(h:ixN n i=some j):seqIndex? i n=some j/\j<n/\-(n:Int)<=i/\i<n:=by
 unfold ixN at h;by_cases h0:0<=i
 .rw[if_pos h0]at h;by_cases h1:i<n
  .rw[if_pos h1]at h;have e:i.toNat=j:=Yd h
   exact⟨by rw[seqIndex_of h0 h1,e],by omega,by omega,h1⟩
  .rw[if_neg h1]at h;cases h
 .rw[if_neg h0]at h;by_cases h1:-(n:Int)<=i
  .rw[if_pos h1]at h;have e:(i+n).toNat=j:=Yd h
   exact⟨by rw[seqIndex_neg (by omega) h1,e],by omega,h1,by omega⟩
  .rw[if_neg h1]at h;cases h
theorem ZE8{α:Type}{xs:List α}{i:Int}{v:α}(h:atI xs i=some v):∃ j,seqIndex? i xs.length=some j/\xs[j]?=some v/\j<xs.length/\-(xs.length:Int)<=i/\i<xs.length:=by
 unfold atI at h;cases e:ixN xs.length i with
 | none=>rw[e]at h;cases h
 | some j =>
  rw[e]at h;obtain⟨h1,h2,h3,h4⟩:=Ze8 e;exact⟨j,h1,h,h2,h3,h4⟩
def ZZ11(b:Expr):Prop:=∀ o i,subscripted b false o i=operate [o,i] (getItem o i)
def IxR(X:Cx)(r:R2):Prop :=
 ∀(value slice:Expr) (pins:List (Addr × Obj)) (s:Shared) (σ:St) (H:Hp) (x y:V) (v u:Value) (Q:VK),Inv X pins σ H s->RelV x v->RelV y u->r x y H Q ->
  subscripted slice false v u=operate [v,u] (getItem v u)->wpAny (model X.prog X.w) X.A (subscriptTail value slice v u) (EP X pins σ Q) X.xe s
def MtR(X:Cx)(id:String)(r:V->List V->Hp->VK->Prop):Prop :=
 ∀(pins:List (Addr × Obj)) (s:Shared) (σ:St) (H:Hp) (x:V) (xs:List V) (v:Value) (us:Ag) (Q:VK),Inv X pins σ H s->RelV x v->Vals xs us->r x xs H Q ->
  wpAny (model X.prog X.w) X.A (call (.builtin id) (v :: us)) (EP X pins σ Q) X.xe s
section
variable{X:Cx}{a b:Expr}{ta tb:TE}{pos:Pos}
theorem ZL{r:R2}(hr:IxR X r)(ha:PE X a ta)(hb:PE X b tb)(hs:ZZ11 b):PE X (.Subscript a b pos) (tOp r ta tb):=by intro pins s σ H Q I h;exact Subscript_ (binT ha hb I h λv u s2 x y H2 I2 rx ry q=>hr a b pins s2 σ H2 x y v u Q I2 rx ry q (hs _ _))
def rIxL(K:Ad):R2:=λx y H Q=>∃ p xs i v,x=.ref p/\y=.int i/\SqL K H p xs/\atI xs i=some v/\Q v H
def rIxT(K:Ad):R2:=λx y H Q=>∃ p xs i v,x=.ref p/\y=.int i/\SqT K H p xs/\atI xs i=some v/\Q v H
theorem Zl11:IxR X (rIxL X.K):=by
 intro value slice pins s σ H x y v u Q I rx ry h hs;obtain⟨p,xs,i,z,rfl,rfl,hq,he,q⟩:=h;cases rx;obtain⟨t,rfl⟩:=ry;obtain⟨its,r,pl,hz⟩:=I.list hq;obtain⟨j,h1,h2,h3,h4,h5⟩:=ZE8 he;obtain⟨w,ew,rw'⟩:=r.get h2;have hl:=r.length
 have hn:=Zz46;have fin:EP X pins σ Q w s:=⟨z,H,I,rw',q⟩
 by_cases h0:0<=i
 .have hj:i.toNat=j:=by rw[seqIndex_of h0 h5]at h1;exact Yd h1
  exact item_listR pl.isList h0 (by omega) (by rw[hj];simpa using ew) fin hs
 .have hj:(i+(its.toArray.size:Int)).toNat=j:=by rw[seqIndex_neg (by omega) h4]at h1;rw[Yy9,<- hl];exact Yd h1
  exact subscriptTail_builtinR (x:=w) pl.isList.typeIs slot_list_getitem.lookup
   (wpAny_getItem_list_neg (Q:=λr s'=>r=w/\EP X pins σ Q r s') pl.isList (by omega) (by rw[Yy9] <;> omega) (by omega) (by rw[hj];simpa using ew) ⟨rfl,fin⟩) hs
theorem ZT12:IxR X (rIxT X.K):=by
 intro value slice pins s σ H x y v u Q I rx ry h hs;obtain⟨p,xs,i,z,rfl,rfl,hq,he,q⟩:=h;cases rx;obtain⟨t,rfl⟩:=ry;obtain⟨its,r,pl,hz⟩:=I.tuple hq;obtain⟨j,h1,h2,h3,h4,h5⟩:=ZE8 he;obtain⟨w,ew,rw'⟩:=r.get h2;have hl:=r.length
 have hn:=Zz46;have fin:EP X pins σ Q w s:=⟨z,H,I,rw',q⟩
 exact subscriptTail_builtinR (x:=w) pl.typeIs slot_tuple_getitem.lookup
  (getItem_tuple (j:=j) (Q:=λr s'=>r=w/\EP X pins σ Q r s') pl (by omega) (by omega) (by rwa[Yy9,<- hl]) (by simpa using ew) ⟨rfl,fin⟩) hs
theorem ZW5 (its:Ag) (n j:Nat) (u:Value):Obj.mapSeq (·.setIfInBounds j u) { cls:=.type "list",data:=.seq its.toArray n }={ cls:=.type "list",data:=.seq (its.set j u).toArray n }:=by simp[Obj.mapSeq]
theorem Inv.lst{pins:List (Addr × Obj)}{σ:St}{H:Hp}{s:Shared}{p:Addr}{xs:List V}(I:Inv X pins σ H s)(h:H p=some (.lst xs)) :
  ∃(its:Ag) (n:Nat),Vals xs its/\s.heap.get? p=some { cls:=.type "list",data:=.seq its.toArray n }/\xs.length<=sizeLine:=by obtain⟨z,its,n,r,e⟩:=I.hok p _ h;exact⟨its,n,r,e,z⟩
theorem Inv.lstUpd{pins:List (Addr × Obj)}{σ:St}{H:Hp}{s:Shared}{p:Addr}{xs ys:List V}{its its':Ag}{n n':Nat}{f:Obj->Obj}(I:Inv X pins σ H s)(h:H p=some (.lst xs))
  (ho:s.heap.get? p=some { cls:=.type "list",data:=.seq its.toArray n }) (hf:f { cls:=.type "list",data:=.seq its.toArray n }={ cls:=.type "list",data:=.seq its'.toArray n' }) (r:Vals ys its') (hz:ys.length<=sizeLine) (t:Nat) :
  Inv X pins σ (upd H p (.lst ys)) { s with heap:=s.heap.update p f,toks:=t }:=by
 have e:(s.heap.update p f).get? p=some { cls:=.type "list",data:=.seq its'.toArray n' }:=by rw[Yy00 f ho (by rw[hf] <;> rfl),hf]
 refine I.write (x:=p) (e:=p) (by rw[h];trivial) (.inl rfl) (λb u hb q=>(YN _ _ (YR hb)).trans q) ⟨_,e⟩ ?_;exact⟨hz,its',n',r,e⟩
def Zt13:V->V->V->Hp->(Hp->Prop)->Prop:=λo i v H Q=>∃ p xs k j,o=.ref p/\i=.int k/\H p=some (.lst xs)/\ixN xs.length k=some j/\Q (upd H p (.lst (xs.set j v)))
theorem Zy1:PSet X Zt13:=by
 intro pins s σ H o i v ov iv u Q I ro ri rv h;obtain⟨p,xs,k,j,rfl,rfl,hp,hj,q⟩:=h;cases ro;obtain⟨t,rfl⟩:=ri;obtain⟨its,n,r,ho,hz⟩:=I.lst hp;obtain⟨h1,h2,h3,h4⟩:=Ze8 hj;have hl:=r.length
 have hn:=Zz46;have I':Inv X pins σ (upd H p (.lst (xs.set j v))) { s with heap:=s.heap.update p (Obj.mapSeq (·.setIfInBounds j u)) } :=
  I.lstUpd hp ho (ZW5 its n j u) (r.set rv j) (by rwa[Y0y]) s.toks
 by_cases h0:0<=k
 .have hk:k.toNat=j:=by rw[seqIndex_of h0 h4]at h1;exact Yd h1
  exact PySem.W.ki_setAt ho h0 (by omega) (by rwa[Yy9,<- hl]) (by rw[hk];exact⟨_,I',q⟩)
 .have hk:(k+(its.toArray.size:Int)).toNat=j:=by rw[seqIndex_neg (by omega) h3]at h1;rw[Yy9,<- hl];exact Yd h1
  exact PySem.W.ki_setBack ho (by omega) (by rwa[Yy9,<- hl]) (by omega) (by rw[hk];exact⟨_,I',q⟩)
theorem Zo3(lo hi:Option Int)(n:Nat):(sliceBounds lo hi none n).1=((HT.sIx n 0 lo:Nat):Int)/\(sliceBounds lo hi none n).2.1=((HT.sIx n n hi:Nat):Int)/\(sliceBounds lo hi none n).2.2=1:=by
 refine⟨?_,?_,rfl⟩
 .cases lo with
  | none=>simp[sliceBounds,HT.sIx]
  | some i =>
   simp only [sliceBounds,HT.sIx,Option.getD_none,show(1:Int) > 0 by decide,Yy38];by_cases h:i<0
   .simp only [h,Yy38] <;> omega
   .simp only [h,if_false] <;> omega
 .cases hi with
  | none=>simp[sliceBounds,HT.sIx]
  | some i =>
   simp only [sliceBounds,HT.sIx,Option.getD_none,show(1:Int) > 0 by decide,Yy38];by_cases h:i<0
   .simp only [h,Yy38] <;> omega
   .simp only [h,if_false] <;> omega
theorem ZW2(its:Ag)(lo hi:Option Int):slicePick its.toArray lo hi none=((its.drop (HT.sIx its.length 0 lo)).take (HT.sIx its.length its.length hi - HT.sIx its.length 0 lo)).toArray:=by obtain⟨h1,h2,h3⟩:=Zo3 lo hi its.toArray.size;unfold slicePick;rw[h1,h2,h3];simp only [sliceRange_one,pick_run,Yy9] <;> rfl
def rSlL(K:Ad):V->Option Int->Option Int->Hp->VK->Prop:=λx lo hi H Q=>∃ a xs,x=.ref a/\SqL K H a xs/\∀ p,H p=none->Q (.ref p) (upd H p (.lst (cutV xs lo hi)))
theorem Zt10:SlR X (rSlL X.K):=by
 intro pins s σ H x v vl vu lo hi sl Q I rx hs pl pu h;obtain⟨a,xs,rfl,hx,q⟩:=h;cases rx;obtain⟨its,r,ht,hz⟩:=I.list hx;have hlen:=r.length
 refine⟨"list",_,slot_list_getitem.lookup,ht.isList.typeIs,?_⟩;refine wpAny_getItem_list_slice ht.isList hs pl pu .none (by simp) ?_ (by rw[Yy9] <;> omega)
 rw[ZW2,<- hlen];refine⟨.ref s.heap.objs.size,_,I.laid (t':=s.toks) (o:=.lst (cutV xs lo hi)) (λb ob q=>Yy4 _ q) (Yy6 _) ?_,rfl,q _ (I.hok.fresh (Yy6 _))⟩;exact⟨YD (ZD1 xs lo hi) hz,_,0,(r.drop (HT.sIx xs.length 0 lo)).take (HT.sIx xs.length xs.length hi - HT.sIx xs.length 0 lo),Yj _ rfl⟩
def ZP2:V->Bool
 | .non=>true
 | .bl _=>true
 | .int _=>true
 | .str _=>true
 | _=>false
def eqV:V->V->Bool
 | .non,.non=>true
 | .bl a,.bl b=>a == b
 | .bl a,.int b=>(if a then 1 else 0) == b
 | .int a,.bl b=>a == (if b then 1 else 0)
 | .int a,.int b=>a == b
 | .str a,.str b=>a == b
 | _,_=>false
theorem ZD11{A:Around}{s:Shared}{y x:V}{u v:Value}(ry:RelV y u)(rx:RelV x v)(fy:ZP2 y=true)(fx:ZP2 x=true):SeqAt.EqAt A s u v (eqV y x):=by
 cases y with
 | non =>
  cases ry;cases x with
  | non=>cases rx;exact Y2C _
  | bl b=>cases rx;exact SeqAt.EqAt.none_bool b
  | int b=>obtain⟨t,rfl⟩:=rx;exact SeqAt.EqAt.none_int b t
  | str b=>obtain⟨t,rfl⟩:=rx;exact SeqAt.EqAt.none_str b t
  | _=>exact absurd (show false=true from fx) Yq
 | bl a =>
  cases ry;cases x with
  | non=>cases rx;exact SeqAt.EqAt.bool_none a
  | bl b=>cases rx;exact SeqAt.EqAt.bool_bool a b
  | int b=>obtain⟨t,rfl⟩:=rx;exact SeqAt.EqAt.bool_int a b t
  | str b=>obtain⟨t,rfl⟩:=rx;exact SeqAt.EqAt.bool_str a b t
  | _=>exact absurd (show false=true from fx) Yq
 | int a =>
  obtain⟨t',rfl⟩:=ry;cases x with
  | non=>cases rx;exact SeqAt.EqAt.int_none a t'
  | bl b=>cases rx;exact SeqAt.EqAt.int_bool a t' b
  | int b=>obtain⟨t,rfl⟩:=rx;exact Yy18 a t' b t
  | str b=>obtain⟨t,rfl⟩:=rx;exact SeqAt.EqAt.int_str a t' b t
  | _=>exact absurd (show false=true from fx) Yq
 | str a =>
  obtain⟨t',rfl⟩:=ry;cases x with
  | non=>cases rx;exact SeqAt.EqAt.str_none a t'
  | bl b=>cases rx;exact SeqAt.EqAt.str_bool a t' b
  | int b=>obtain⟨t,rfl⟩:=rx;exact SeqAt.EqAt.str_int a t' b t
  | str b=>obtain⟨t,rfl⟩:=rx;exact SeqAt.EqAt.str_str a t' b t
  | _=>exact absurd (show false=true from fx) Yq
 | _=>exact absurd (show false=true from fy) Yq
def eqU(x:V)(u:Value):Bool:=match u with
 | .none=>eqV .non x
 | .bool b=>eqV (.bl b) x
 | .int i _=>eqV (.int i) x
 | .str z _=>eqV (.str z) x
 | _=>false
theorem ZC11{x y:V}{u:Value}(r:RelV y u)(f:ZP2 y=true):eqU x u=eqV y x:=by
 cases y with
 | non=>cases r;rfl
 | bl b=>cases r;rfl
 | int i=>obtain⟨t,rfl⟩:=r;rfl
 | str z=>obtain⟨t,rfl⟩:=r;rfl
 | _=>exact absurd (show false=true from f) Yq
theorem Zj3{x:V}:∀ {xs:List V} {us:Ag},Vals xs us->xs.all ZP2=true->us.any (eqU x)=xs.any λy=>eqV y x
 | _,_,.nil,_=>rfl
 | y :: xs,u :: us,.cons r t,f=>by rw[List.all_cons,Y0r]at f;rw[Y2f,Y2f,ZC11 r f.1,Zj3 t f.2]
theorem Zz52{A:Around}{s:Shared}{x:V}{v:Value}(rx:RelV x v)(fx:ZP2 x=true):∀ {xs:List V} {us:Ag},Vals xs us->xs.all ZP2=true->∀ u∈us,SeqAt.EqAt A s u v (eqU x u)
 | _,_,.nil,_=>λu hu=>by cases hu
 | y :: xs,u :: us,.cons r t,f=>λu' hu=>by
  rw[List.all_cons,Y0r]at f;rcases Ye.mp hu with rfl | hu
  .rw[ZC11 r f.1];exact ZD11 r rx f.1 fx
  .exact Zz52 rx fx t f.2 u' hu
def inV(x:V)(xs:List V):Bool:=xs.any λy=>eqV y x
def rIn(K:Ad)(neg:Bool):R2:=λx y H Q=>∃ p xs,y=.ref p/\(SqL K H p xs\/SqT K H p xs)/\ZP2 x=true/\xs.all ZP2=true/\Q (.bl (if neg then !inV x xs else inV x xs)) H
theorem Zd7:OpR X (compareOp .In) (rIn X.K false):=by
 intro pins s σ H x y v u Q I rx ry h;obtain⟨p,xs,rfl,hq,fx,fs,q⟩:=h;cases ry;rcases hq with hq | hq
 .obtain⟨its,r,pl,hz⟩:=I.list hq;refine SeqAt.in_listAt (eqU x) pl.isList (λw hw=>Zz52 rx fx r fs w (by simpa using hw)) ⟨.bl _,H,I,rfl,?_⟩;rwa[show its.toArray.any (eqU x)=its.any (eqU x) by simp,Zj3 r fs]
 .obtain⟨its,r,pl,hz⟩:=I.tuple hq;refine SeqAt.in_tupleAt (eqU x) pl (λw hw=>Zz52 rx fx r fs w (by simpa using hw)) ⟨.bl _,H,I,rfl,?_⟩;rwa[show its.toArray.any (eqU x)=its.any (eqU x) by simp,Zj3 r fs]
theorem Zx3:OpR X (compareOp .NotIn) (rIn X.K true):=by
 intro pins s σ H x y v u Q I rx ry h;obtain⟨p,xs,rfl,hq,fx,fs,q⟩:=h;cases ry;rcases hq with hq | hq
 .obtain⟨its,r,pl,hz⟩:=I.list hq;refine SeqAt.notIn_listAt (eqU x) pl.isList (λw hw=>Zz52 rx fx r fs w (by simpa using hw)) ⟨.bl _,H,I,rfl,?_⟩;rwa[show its.toArray.any (eqU x)=its.any (eqU x) by simp,Zj3 r fs]
 .obtain⟨its,r,pl,hz⟩:=I.tuple hq;refine SeqAt.notIn_tupleAt (eqU x) pl (λw hw=>Zz52 rx fx r fs w (by simpa using hw)) ⟨.bl _,H,I,rfl,?_⟩;rwa[show its.toArray.any (eqU x)=its.any (eqU x) by simp,Zj3 r fs]
theorem ZP3:Zg2 X (.builtin "len") (λxs H Q=>∃ p ys,xs=[.ref p]/\(SqL X.K H p ys\/SqT X.K H p ys)/\Q (.int ys.length) H):=by
 intro pins s σ H xs us Q I r h;obtain⟨p,ys,rfl,hq,q⟩:=h;obtain⟨u,rfl,rx⟩:=Zk3 r;cases rx;have hn:=Zz46
 rcases hq with hq | hq
 .obtain⟨its,r',pl,hz⟩:=I.list hq;have hlen:=r'.length
  exact Calls.call_len_list pl.isList (by simp only [Yy9] <;> omega) ⟨.int ys.length,H,I.tok _,⟨s.toks+1,by rw[Yy9,hlen]⟩,q⟩
 .obtain⟨its,r',pl,hz⟩:=I.tuple hq;have hlen:=r'.length
  exact len_tuple pl (by simp only [Yy9] <;> omega) ⟨.int ys.length,H,I.tok _,⟨s.toks+1,by rw[Yy9,hlen]⟩,q⟩
theorem ZO3:Zg2 X (.type "list") (λxs H Q=>∃ p ys,xs=[.ref p]/\(SqL X.K H p ys\/SqT X.K H p ys)/\∀ l,H l=none->Q (.ref l) (upd H l (.lst ys))):=by
 intro pins s σ H xs us Q I r h;obtain⟨p,ys,rfl,hq,q⟩:=h;obtain⟨u,rfl,rx⟩:=Zk3 r;cases rx;have fin:∀(its:Ag),Vals ys its->ys.length<=sizeLine->∀(h':Heap) (c':Nat),(∀ b o',s.heap.get? b=some o'->h'.get? b=some o') ->
   h'.get? s.heap.objs.size=some { cls:=.type "list",dict:=none,data:=.seq its.toArray c',slots:=#[] }->EP X pins σ Q (.ref s.heap.objs.size) { s with heap:=h' }:=λits r' hz h' c' kp e =>
  ⟨.ref s.heap.objs.size,_,I.laid (t':=s.toks) kp (Yy6 _) (show ObjOk X.prog X.w _ h' _ (.lst ys) from⟨hz,its,c',r',e⟩),rfl,q _ (I.hok.fresh (Yy6 _))⟩
 rcases hq with hq | hq
 .obtain⟨its,r',pl,hz⟩:=I.list hq;have hlen:=r'.length
  obtain⟨o,ho,hc,n,hd⟩:=pl.isList;exact call_list_seq p (.inl rfl) ho hc hd (λh' c' kp e=>fin its r' hz h' c' kp e) (by simp only [Yy9] <;> omega)
 .obtain⟨its,r',pl,hz⟩:=I.tuple hq;have hlen:=r'.length
  obtain⟨o,ho,hc,n,hd⟩:=pl;exact call_list_seq p (.inr rfl) ho hc hd (λh' c' kp e=>fin its r' hz h' c' kp e) (by simp only [Yy9] <;> omega)
theorem Zf3:Zg2 X (.type "tuple") (λxs H Q=>∃ p ys,xs=[.ref p]/\((SqL X.K H p ys/\∀ l,H l=none->Q (.ref l) (upd H l (.tup ys)))\/(SqT X.K H p ys/\Q (.ref p) H))):=by
 intro pins s σ H xs us Q I r h;obtain⟨p,ys,rfl,h⟩:=h;obtain⟨u,rfl,rx⟩:=Zk3 r;cases rx;rcases h with ⟨hq,q⟩ | ⟨hq,q⟩
 .obtain⟨its,r',pl,hz⟩:=I.list hq;have hlen:=r'.length
  refine call_tuple_list pl.isList (λh' kp=>?_) (by simp only [Yy9] <;> omega)
  have I1:Inv X pins σ H { s with heap:=h' }:=I.kept (t':=s.toks) kp;have I2:Inv X pins σ (upd H h'.objs.size (.tup ys)) { s with heap:=h'.push { cls:=.type "tuple",data:=.seq its.toArray } } :=
   I1.laid (t':=s.toks) (λb o e=>Yy4 _ e) (Yy6 _) (show ObjOk X.prog X.w _ _ _ (.tup ys) from⟨hz,its,r',IsTup.new _ _⟩)
  exact⟨.ref h'.objs.size,_,I2,rfl,q _ (I1.hok.fresh (Yy6 _))⟩
 .obtain⟨its,r',pl,hz⟩:=I.tuple hq;exact call_tuple_same pl ⟨.ref p,H,I,rfl,q⟩
def tyV(K:Ad)(T:String)(x:V)(H:Hp):Prop:=match x with
 | .str _=>T="str"
 | .int _=>T="int"
 | .ref p=>(T="list"/\∃ xs,SqL K H p xs)\/(T="tuple"/\∃ o,K.lookup p=some o/\o.cls=.type "tuple"/\o.dict=none) \/
   (T="dict"/\((∃ kvs,H p=some (.dK kvs))\/∃ kvs,H p=some (.dT kvs)))\/(T="set"/\∃ S n,H p=some (.set S n))
 | _=>False
theorem Zh10{pins:List (Addr × Obj)}{σ:St}{H:Hp}{s:Shared}{T:String}{x:V}{v:Value}(I:Inv X pins σ H s)(r:RelV x v)(ty:tyV X.K T x H) :
  s.TypeIs v T/\∀ a,v=.ref a->∃ ob,s.heap.get? a=some ob/\ob.dict=none:=by
 cases x with
 | str z =>
  obtain⟨t,rfl⟩:=r;cases (show T="str" from ty);exact⟨typeIs_str s z t,λ_ e=>nomatch e⟩
 | int i =>
  obtain⟨t,rfl⟩:=r;cases (show T="int" from ty);exact⟨typeIs_int s i t,λ_ e=>nomatch e⟩
 | ref p =>
  cases r;rcases ty with ⟨rfl,xs,hq⟩ | ⟨rfl,o,hk,hc,hd⟩ | ⟨rfl,hk⟩ | ⟨rfl,S,n,hk⟩
  .obtain⟨its,_,pl,_⟩:=I.list hq;refine⟨pl.isList.typeIs,λa e=>?_⟩;cases e;obtain⟨o,n,e,c,hd,_⟩:=pl;exact⟨o,e,hd⟩
  .refine⟨⟨o,I.kIn p o hk,hc⟩,λa e=>?_⟩;cases e;exact⟨o,I.kIn _ o hk,hd⟩
  .have z:∃ o,s.heap.get? p=some o/\o.ExactDict:=by
    rcases hk with ⟨kvs,hk⟩ | ⟨kvs,hk⟩
    .obtain⟨_,_,_,_,o,_,_,e,ex,_⟩:=I.hok p _ hk;exact⟨o,e,ex⟩
    .obtain⟨_,_,_,_,o,_,_,e,ex,_⟩:=I.hok p _ hk;exact⟨o,e,ex⟩
   obtain⟨o,e,ex⟩:=z;refine⟨⟨o,e,ex.1⟩,λa e2=>?_⟩;cases e2;exact⟨o,e,ex.2.1⟩
  .obtain⟨o,_,_,_,e,ex,_⟩:=I.hok p _ hk;refine⟨⟨o,e,ex.1⟩,λa e2=>?_⟩;cases e2;exact⟨o,e,ex.2.1⟩
 | _=>exact False.elim ty
def tBM0(K:Ad)(T:String)(r:V->List V->Hp->VK->Prop)(to:TE):TE:=λσ H Q=>to σ H λx H1=>tyV K T x H1/\r x [] H1 Q
def tBM(K:Ad)(T:String)(r:V->List V->Hp->VK->Prop)(to:TE)(t:TA):TE:=λσ H Q=>to σ H λx H1=>tyV K T x H1/\t σ H1 λxs H2=>r x xs H2 Q
variable{o e:Expr}{es:List Expr}{to:TE}{t:TA}{name:Str}{apos cpos:Pos}{T id:String}{r:V->List V->Hp->VK->Prop}
theorem ZH12 (pa:PlainAttrs T) (slot:Slot T name id) (hty:typeOf (.builtin id)=pure (.type "method_descriptor")) (hm:MtR X id r) (ho:PE X o to)
  (hbase:attributeBase o name X.env (eval o X.env)=eval o X.env:=by rfl) (hline:(apos.endLine == cpos.line)=true:=by rfl):PE X (.Call (.Attribute o name apos) [] [] cpos) (tBM0 X.K T r to):=by intro pins s σ H Q I h;refine wpAny_Call_method0_late hbase hline (thn (ho pins s σ H _ I h) λv s1 hz0=>?_);obtain⟨x,H1,I1,r1,ty,q1⟩:=hz0;obtain⟨h1,h2⟩:=Zh10 I1 r1 ty;exact⟨T,id,pa,slot,hty,h1,h2,Calls.callWith_builtin rfl (PySem.evalArgs_none (hm pins s1 σ H1 x [] v [] Q I1 r1 .nil q1))⟩
theorem ZA13 (pa:PlainAttrs T) (slot:Slot T name id) (hty:typeOf (.builtin id)=pure (.type "method_descriptor")) (hm:MtR X id r) (ho:PE X o to) (ha:PA X (e :: es) t)
  (hbase:attributeBase o name X.env (eval o X.env)=eval o X.env:=by rfl)
  (hfew:((backTo cpos (starEach (e :: es) X.env)).all (λx=>!x.1) && (backToKw cpos (keywordEach [] X.env)).all (λx=>x.1.isSome)
   && decide ((e :: es).length+([]:List Keyword).length+(if ([]:List Keyword).isEmpty then 0 else 1)<30))=true:=by rfl)
  (hline:(apos.endLine == cpos.line)=true:=by rfl) (hs:starEach (e :: es) X.env=(false,eval e X.env) :: starEach es X.env:=by rfl) (hplain:(backTo cpos (starEach es X.env)).any (·.1)=false:=by rfl) :
  PE X (.Call (.Attribute o name apos) (e :: es) [] cpos) (tBM X.K T r to t):=by
 intro pins s σ H Q I h;refine wpAny_Call_method_late hbase hfew hline rfl (thn (ho pins s σ H _ I h) λv s1 hz0=>?_);obtain⟨x,H1,I1,r1,ty,q1⟩:=hz0;obtain⟨h1,h2⟩:=Zh10 I1 r1 ty;refine⟨T,id,pa,slot,hty,h1,h2,?_⟩;have hA:=ha cpos pins s1 σ H1 _ I1 q1
 rw[hs]at hA ⊢;refine Calls.callWith_builtin (by show(false || (backTo cpos (starEach es X.env)).any (·.1))=false;rw[hplain] <;> rfl) (Calls.evalArgs_plain ?_)
 exact thn hA λus s2 ⟨vs,H2,I2,r2,q2⟩=>hm pins s2 σ H2 x vs v us Q I2 r1 r2 q2
end
def MtM(X:Cx)(id:String)(r:V->List V->Hp->VK->Prop):Prop :=
 ∀(pins:List (Addr × Obj)) (s:Shared) (σ:St) (H:Hp) (x:V) (xs:List V) (v:Value) (us:Ag) (Q:VK),Inv X pins σ H s->RelV x v->Vals xs us->r x xs H Q ->
  wpAny (model X.prog X.w) X.A (call (.builtin id) (v :: us)) (EP X pins σ Q) X.xe s
theorem Vals.one{x:V}{us:Ag}(r:Vals [x] us):∃ u,us=[u]/\RelV x u:=by
 cases r with
 | cons a r=>cases r;exact⟨_,rfl,a⟩
theorem Vals.eraseIdx:∀ {xs:List V} {us:Ag} (i:Nat),Vals xs us->Vals (xs.eraseIdx i) (us.eraseIdx i)
 | _,_,_,.nil=>.nil
 | _,_,0,.cons _ t=>t
 | _,_,i+1,.cons r t=>.cons r (Vals.eraseIdx i t)
theorem Vals.rep{xs:List V}{us:Ag}(h:Vals xs us):∀ k:Nat,Vals (List.replicate k xs).flatten (List.replicate k us).flatten
 | 0=>.nil
 | k+1=>by rw[Y0K,Y0K,Y1A,Y1A];exact Vals.append h (Vals.rep h k)
theorem Ze4{α:Type}:∀(l:List α) (i:Nat),(l.eraseIdx i).length<=l.length
 | [],_=>Yy6 _
 | _ :: _,0=>Y0P _
 | _ :: r,i+1=>Nat.succ_le_succ (Ze4 r i)
theorem Zq4(its:Ag):∀(k:Nat) (acc:Ag),
  List.foldl (λx1 x2=>x1++x2) acc.toArray (List.replicate k its.toArray)=(acc++(List.replicate k its).flatten).toArray
 | 0,acc=>by simp
 | k+1,acc=>by
  have e:acc.toArray++its.toArray=(acc++its).toArray:=by simp
  have e2:(acc++its)++(List.replicate k its).flatten=acc++(List.replicate (k+1) its).flatten:=by rw[Y0K,Y1A,Yy09]
  rw[<- e2,<- Zq4 its k (acc++its),<- e,Y0K,Y2i]
section
variable{X:Cx}{pins:List (Addr × Obj)}{σ:St}{H:Hp}{s:Shared}{l:Addr}{xs ys:List V}
theorem Inv.lset{its its':Ag}{n:Nat}{f:Array Value->Array Value}{t':Nat}(I:Inv X pins σ H s)(hH:H l=some (.lst xs))
  (e:s.heap.get? l=some { cls:=.type "list",data:=.seq its.toArray n }) (hf:f its.toArray=its'.toArray) (hv:Vals ys its') (hz:ys.length<=sizeLine) :
  Inv X pins σ (upd H l (.lst ys)) { s with heap:=s.heap.update l (Obj.mapSeq f),toks:=t' }:=by have q:=PySem.IsL.update e f;rw[hf]at q;refine I.write (x:=l) (e:=l) (by rw[hH];exact trivial) (.inl rfl) (λb' u hb hu=>(YN s.heap (Obj.mapSeq f) (YR hb)).trans hu) ⟨_,q⟩ ?_;exact⟨hz,its',_,hv,q⟩
theorem Inv.lnew{its:Ag}{t':Nat}(I:Inv X pins σ H s)(hv:Vals ys its)(hz:ys.length<=sizeLine) :
  Inv X pins σ (upd H s.heap.objs.size (.lst ys)) { s with heap:=s.heap.push { cls:=.type "list",data:=.seq its.toArray },toks:=t' } :=
 I.laid (λ_ _ q=>Yy4 _ q) (Yy6 _) ⟨hz,its,0,hv,Yj _ rfl⟩
theorem Inv.fresh(I:Inv X pins σ H s):H s.heap.objs.size=none:=I.hok.fresh (Yy6 _)
theorem Inv.lstM (I:Inv X pins σ H s) (hH:H l=some (.lst xs)):xs.length<=sizeLine/\∃(its:Ag) (n:Nat),Vals xs its/\xs.length=its.length/\s.heap.get? l=some { cls:=.type "list",data:=.seq its.toArray n }:=by obtain⟨z,its,n,r,e⟩:=I.hok l _ hH;exact⟨z,its,n,r,r.length,e⟩
theorem ZQ5{n:Nat}(h:n<=sizeLine):Builtin.List.listTooLong n=false:=by unfold Builtin.List.listTooLong;exact YT (by omega)
end
section
variable{X:Cx}
def ZH10:V->List V->Hp->VK->Prop:=λx vs H Q=>∃ l xs y,x=.ref l/\vs=[y]/\H l=some (.lst xs)/\xs.length<sizeLine/\Q .non (upd H l (.lst (xs++[y])))
theorem ZV:MtM X "list.append" ZH10:=by intro pins s σ H x vs v us Q I rx rv h;obtain⟨l,xs,y,rfl,rfl,hH,hz,q⟩:=h;cases rx;obtain⟨u,rfl,ru⟩:=rv.one;obtain⟨z,its,n,r,hl,e⟩:=I.lstM hH;refine Y2Q F.slot_list_append ⟨_,e,rfl⟩ F.entry_list_append (F.args_list_append_2 _ _) (PySem.list_append l its.toArray n u (by rw[Yy9];omega)) ⟨e,?_⟩;refine⟨.non,_,I.lset (its':=its++[u]) hH e (by simp) (r.append (.cons ru .nil)) ?_,rfl,q⟩;rw[Yy5,YB];omega
def ZY7:V->List V->Hp->VK->Prop:=λx vs H Q=>∃ l b xs zs,x=.ref l/\vs=[.ref b]/\H l=some (.lst xs)/\H b=some (.lst zs)/\xs.length+zs.length<=sizeLine/\Q .non (upd H l (.lst (xs++zs)))
theorem Zy2:MtM X "list.extend" ZY7:=by
 intro pins s σ H x vs v us Q I rx rv h;obtain⟨l,b,xs,zs,rfl,rfl,hH,hB,hz,q⟩:=h;cases rx;obtain⟨u,rfl,ru⟩:=rv.one;cases ru;obtain⟨z,its,n,r,hl,e⟩:=I.lstM hH;obtain⟨z2,its2,n2,r2,hl2,e2⟩:=I.lstM hB;have hsz:its.toArray.size+its2.toArray.size<=sizeLine:=by rw[Yy9,Yy9];omega
 have hlong:¬ (!its.toArray.isEmpty && Builtin.List.listTooLong (its.toArray.size+its2.toArray.size))=true:=by rw[ZQ5 hsz,Bool.and_false];exact Yq
 refine Y2Q F.slot_list_extend ⟨_,e,rfl⟩ F.entry_list_extend (F.args_list_extend_2 _ _)
  (AutoSeq1.list_extend_list_list_0 l its.toArray n b its2.toArray n2 hlong (by rw[Yy9];omega) (by omega)) ⟨e,e2,?_⟩
 refine⟨.non,_,I.lset (its':=its++its2) hH e (by simp) (r.append r2) ?_,rfl,q⟩;rw[Yy5];omega
def Zs12:V->List V->Hp->VK->Prop:=λx vs H Q=>∃ l xs i k y,x=.ref l/\vs=[.int i]/\H l=some (.lst xs)/\-(2 ^ 63)<=i/\i<2 ^ 63/\seqIndex? i xs.length=some k/\xs[k]?=some y/\Q y (upd H l (.lst (xs.eraseIdx k)))
theorem Zi9:MtM X "list.pop" Zs12:=by
 intro pins s σ H x vs v us Q I rx rv h;obtain⟨l,xs,i,k,y,rfl,rfl,hH,h1,h2,hk,hy,q⟩:=h;cases rx;obtain⟨u,rfl,ru⟩:=rv.one;obtain⟨t,rfl⟩:=ru;obtain⟨z,its,n,r,hl,e⟩:=I.lstM hH;obtain⟨w,hw,rw'⟩:=r.get hy;refine Y2Q F.slot_list_pop ⟨_,e,rfl⟩ F.entry_list_pop (F.args_list_pop_2 _ _)
  (MeetsSeq.list_pop_at l its.toArray n i t k w (fitsIndex_both h1 h2) (by rwa[Yy9,<- hl]) (by rwa[<- YQ]) (by rw[Yy9];omega)) ⟨e,?_⟩
 refine⟨y,_,I.lset (its':=its.eraseIdx k) hH e ?_ (r.eraseIdx k) ?_,rw',q⟩
 .show its.toArray.eraseIdxIfInBounds k=(its.eraseIdx k).toArray;rw[List.eraseIdxIfInBounds_toArray]
 .have:=Ze4 xs k
  omega
def rCat:R2:=λx y H Q=>∃ l b xs zs,x=.ref l/\y=.ref b/\H l=some (.lst xs)/\H b=some (.lst zs)/\xs.length+zs.length<=sizeLine/\∀ p,H p=none->Q (.ref p) (upd H p (.lst (xs++zs)))
theorem Zz011:OpR X (binaryOp .Add) rCat:=by
 intro pins s σ H x y v u Q I rx ry h;obtain⟨l,b,xs,zs,rfl,rfl,hH,hB,hz,q⟩:=h;cases rx;cases ry;obtain⟨z,its,n,r,hl,e⟩:=I.lstM hH;obtain⟨z2,its2,n2,r2,hl2,e2⟩:=I.lstM hB;refine PySem.P.add_list e e2 ?_ (by rw[Yy9,Yy9];omega);have ea:its.toArray++its2.toArray=(its++its2).toArray:=by simp
 rw[ea];exact⟨.ref _,_,I.lnew (t':=s.toks) (r.append r2) (by rw[Yy5];omega),rfl,q _ I.fresh⟩
def rRep:R2:=λx y H Q=>∃ l k xs,x=.ref l/\y=.int k/\H l=some (.lst xs)/\-(2 ^ 63)<=k/\k<2 ^ 63/\xs.length * k.toNat<=sizeLine /\
 ∀ p,H p=none->Q (.ref p) (upd H p (.lst (List.replicate k.toNat xs).flatten))
theorem Zd11{α:Type}(xs:List α)(k:Nat):(List.replicate k xs).flatten.length=k * xs.length:=by
 induction k with
 | zero=>simp
 | succ k ih=>rw[Y0K,Y1A,Yy5,ih,Nat.succ_mul,Nat.add_comm]
theorem Zd9:OpR X (binaryOp .Mult) rRep:=by
 intro pins s σ H x y v u Q I rx ry h;obtain⟨l,k,xs,rfl,rfl,hH,h1,h2,hz,q⟩:=h;cases rx;obtain⟨t,rfl⟩:=ry;obtain⟨z,its,n,r,hl,e⟩:=I.lstM hH;have hlen:its.toArray.size * k.toNat<=sizeLine:=by rwa[Yy9,<- hl]
 have hcap:¬ its.toArray.size * k.toNat > (2 ^ 63 - 1) / 8:=by
  have:(sizeLine:Nat)<=(2 ^ 63 - 1) / 8:=by decide
  omega
 have hfit:¬ (!Builtin.List.listFitsIndex k)=true:=by rw[fitsIndex_both h1 h2];exact Yq
 have hlong:¬ Builtin.List.listTooLong (its.toArray.size * k.toNat)=true:=by rw[ZQ5 hlen];exact Yq
 have hnew:List.foldl (λx1 x2=>x1++x2) #[] (List.replicate (if its.toArray.isEmpty=true then 0 else k.toNat) its.toArray)=(List.replicate k.toNat its).flatten.toArray:=by
  have f0:∀ m:Nat,List.foldl (λx1 x2=>x1++x2) #[] (List.replicate m its.toArray)=(List.replicate m its).flatten.toArray:=λm=>by
   have:=Zq4 its m []
   rwa[Y1S]at this
  rw[f0];cases its with
  | nil=>simp
  | cons a r'=>rw[if_neg (by simp)]
 refine wpAny_binaryOp_repeat_ref (T:="list") (U:="int") (by decide) ⟨_,e,rfl⟩ (λs'=>typeIs_int s' k t) noFill_list_mul F.fills_int_mul F.slot_int_rmul repeat_list F.slot_int_index.lookup
  (Y2Q F.slot_int_rmul (typeIs_int s k t) F.entry_int_rmul (F.args_int_rmul_2 _ _) (int___rmul___int_list k t l its.toArray n)
   ⟨e,rfl,⟨_,e,rfl⟩,Y2Q F.slot_list_mul ⟨_,e,rfl⟩ F.entry_list_mul (F.args_list_mul_2 _ _) (AutoListH.list___mul___list_int_3 l its.toArray n k t hfit hcap hlong) ⟨e,?_⟩⟩)
 rw[hnew];exact⟨.ref _,_,I.lnew (t':=s.toks) (r.rep k.toNat) (by rwa[Zd11,Y2S]),rfl,q _ I.fresh⟩
end
section
variable{κ:Type}[DecidableEq κ]
def valV(kvs:List (κ × V))(k:κ):Option V:=(kvs.find? λkv=>decide (kv.1=k)).map (·.2)
def putK(kvs:List (κ × V))(k:κ)(v:V):List (κ × V) :=
 if (kvs.any λkv=>decide (kv.1=k))=true then kvs.map (λkv=>if kv.1=k then (kv.1,v) else kv) else kvs++[(k,v)]
theorem Zl3{p:κ × V}{r:List (κ × V)}{k:κ}(e:p.1=k):valV (p :: r) k=some p.2:=by simp[valV,Y2j,e]
theorem Zm3{p:κ × V}{r:List (κ × V)}{k:κ}(e:¬ p.1=k):valV (p :: r) k=valV r k:=by simp[valV,Y2j,e]
theorem Ze5(k:κ):∀ kvs:List (κ × V),(kvs.any λkv=>decide (kv.1=k))=(valV kvs k).isSome
 | []=>rfl
 | p :: r=>by
  rw[Y2f];by_cases e:p.1=k
  .simp only [Zl3 e,Yt e,Bool.true_or,Option.isSome_some]
  .rw[Zm3 e,YT e,Bool.false_or];exact Ze5 k r
theorem ZU4(kvs:List (κ × V))(k:κ)(v:V):(putK kvs k v).length<=kvs.length+1:=by
 unfold putK;split
 .rw[Yc];omega
 .rw[Yy5,Yz,Yy12];omega
theorem Zz09{kvs:List (κ × V)}{k:κ}(v:V)(h:valV kvs k=none):putK kvs k v=kvs++[(k,v)]:=by unfold putK;rw[Ze5,h];exact if_neg (by decide)
theorem KV.val{kvs:List (κ × V)}{vs:List (κ × Value)}(r:KV kvs vs)(k:κ):RelO (valV kvs k) (valueAt vs k):=by
 unfold KV at r
 induction r with
 | nil=>exact True.intro
 | @cons p q ps qs h t ih =>
  obtain⟨h1,h2⟩:=h;by_cases e:p.1=k
  .have e':q.1=k:=h1.symm.trans e;have b:valueAt (q :: qs) k=some q.2:=by simp[valueAt,Y2j,e']
   rwa[Zl3 e,b]
  .have e':¬ q.1=k:=λz=>e (h1.trans z);have b:valueAt (q :: qs) k=valueAt qs k:=by simp[valueAt,Y2j,e']
   rwa[Zm3 e,b]
theorem KV.any{kvs:List (κ × V)}{vs:List (κ × Value)}(r:KV kvs vs)(k:κ):(kvs.any λkv=>decide (kv.1=k))=vs.any λkv=>decide (kv.1=k):=by
 unfold KV at r
 induction r with
 | nil=>rfl
 | cons h t ih=>rw[Y2f,Y2f,ih,h.1]
theorem KV.repl{kvs:List (κ × V)}{vs:List (κ × Value)}(r:KV kvs vs)(k:κ){y:V}{u:Value}(ry:RelV y u) :
  KV (kvs.map λkv=>if kv.1=k then (kv.1,y) else kv) (vs.map λkv=>if kv.1=k then (kv.1,u) else kv):=by
 unfold KV at r ⊢
 induction r with
 | nil=>exact .nil
 | @cons p q ps qs h t ih =>
  rw[YU,YU];refine .cons ?_ ih;obtain⟨h1,h2⟩:=h;by_cases e:p.1=k
  .rw[if_pos e,if_pos (h1.symm.trans e)];exact⟨h1,ry⟩
  .rw[if_neg e,if_neg (λz=>e (h1.trans z))];exact⟨h1,h2⟩
theorem KV.put{kvs:List (κ × V)}{vs:List (κ × Value)}(r:KV kvs vs)(k:κ){y:V}{u:Value}(ry:RelV y u):KV (putK kvs k y) (stored vs k u):=by
 unfold putK stored;rw[r.any k];by_cases e:(vs.any λkv=>decide (kv.1=k))=true
 .rw[if_pos e,if_pos e];exact r.repl k ry
 .rw[if_neg e,if_neg e];exact Paired.snoc r ⟨rfl,ry⟩
theorem KV.length{kvs:List (κ × V)}{vs:List (κ × Value)}(r:KV kvs vs):kvs.length=vs.length:=Paired.length r
end
theorem ZE13{P:Program}{w:World}{k:Key}{u:Value}(r:RelV (kV k) u):(Zz61 P w).is k u=true:=by
 cases k with
 | inl i=>obtain⟨t,e⟩:=(show ∃ t,u=Value.int i t from r);subst e;exact ZT4 P w i t
 | inr x=>obtain⟨t,e⟩:=(show ∃ t,u=Value.str x t from r);subst e;exact ZS4 P w x t
section
variable{P:Program}{w:World}{H:Hp}{h:Heap}{a:Addr}
theorem Zs13{u:HO}(ok:HOk P w H h)(e:Rd H a u):ObjOk P w H h a u:=e.ok ok
theorem ZK13{kvs:List (Key × V)}(ok:HOk P w H h)(e:Rd H a (.dK kvs)):kvs.length<=sizeLine/\(a == sysModules)=false/\∃ vs,KV kvs vs/\h.DictOf (Zz61 P w) a vs :=
 show ObjOk P w H h a (.dK kvs) from Zs13 ok e
theorem ZY12{kvs:List (Key × V)}(ok:HOk P w H h)(e:H a=some (.dK kvs)):kvs.length<=sizeLine/\(a == sysModules)=false/\∃ vs,KV kvs vs/\h.DictOf (Zz61 P w) a vs:=ZK13 ok (.inl e)
end
section
variable{X:Cx}{pins:List (Addr × Obj)}{σ:St}{H:Hp}{s:Shared}{a:Addr}
theorem Inv.big(I:Inv X pins σ H s):sysModules<s.heap.objs.size:=by have h:mainGlobals<s.heap.objs.size:=(I.mod.glob.keeps I.bk).lt;exact Nat.lt_trans (by decide) h
theorem ZM11{h':Heap}{t':Nat}{ob:HO}(I:Inv X pins σ H s)(mu:Mut (H a))(hs:Heap.SameBut a s.heap h')(he:∃ q,h'.get? a=some q)(new:ObjOk X.prog X.w (upd H a ob) h' a ob) :
  Inv X pins σ (upd H a ob) { s with heap:=h',toks:=t' } :=
 I.write (x:=a) (e:=a) mu (.inl rfl) (λb q hb z=>(hs.2 b hb).trans z) he new
theorem ZZ12{P:Program}{w:World}{H':Hp}{h':Heap}{kvs:List (Key × V)}{vs:List (Key × Value)}(z:kvs.length<=sizeLine)(hd:(a == sysModules)=false)(rel:KV kvs vs)(dd:h'.DictOf (Zz61 P w) a vs) :
  ObjOk P w H' h' a (.dK kvs):=⟨z,hd,vs,rel,dd⟩
end
theorem ZO9 {P:Program} {w:World} {H:Hp} (h:Heap) (hb:sysModules<h.objs.size):ObjOk P w H (h.push { cls:=.type "dict",data:=.dict #[] }) h.objs.size (.dK []) :=
 ⟨Yl _,Y1e.mpr (YR (Yo hb)),[],.nil,Heap.DictOf.new h⟩
def Zg12:TE:=λ_ H Q=>∀ p,H p=none->Q (.ref p) (upd H p (.dK []))
section
variable{X:Cx}{pos:Pos}
theorem Zz99:PE X (.Dict [] [] pos) Zg12:=λpins s σ H Q I h =>
 wpAny_Dict_empty ⟨.ref s.heap.objs.size,_,I.laid (a:=s.heap.objs.size) (o:=.dK []) (t':=s.toks) (λ_ _ q=>Yy4 _ q) (Yy6 _) (ZO9 s.heap I.big),rfl,h _ (I.hok.fresh (Yy6 _))⟩
end
end L2
namespace Att
open PySem PySem.W PySem.Calls PyProof.Rows
theorem Zi2{P:Params}{h:Heap}:∀(ns:Ac) (vs:Ag),WellAll P h vs (ns.map WData.int)->IntsAre vs ns:=by
 intro ns
 induction ns with
 | nil =>
  intro vs w;rw[Y2T]at w;cases w;exact .nil
 | cons n ns ih =>
  intro vs w;rw[YU]at w;cases w with
  | cons a b =>
   cases a;exact .cons _ _ (ih _ b)
theorem Zz67{l:OpenLaw}{n:Nat}(hn:l.most=some n){P:Params}{h:Heap}{args:List WData}{vals:Ag}
  (hpre:l.row.toRowW.claim.pre args=true) (hwl:WellAll P h vals args) :
  ∃ a vs ns,vals=[Value.ref a]/\args=[WData.list (ns.map WData.int)]/\h.get? a=some { cls:=.type "list",data:=.seq vs.toArray }/\IntsAre vs ns/\ns.length<=n:=by
 have hsh:WShape.hasAll [] args [.list .int]=true:=(pre_splitW hpre).1;have hc:l.pre.holds [] { args:=args }=true:=(pre_splitW hpre).2
 obtain⟨d,r,rfl,h1,h2⟩:=hasAllW_cons hsh;obtain rfl:=hasAllW_nil h2;obtain⟨xs,rfl,h3⟩:=hasW_list h1;obtain⟨ns,rfl⟩:=items_int h3;have hlen:ns.length<=n:=by
  unfold OpenLaw.pre at hc;have h4:(WTm.not (.lt (.lit (.int (n:Int))) (.len (.arg 0)))).holds [] { args:=[.list (ns.map .int)] }=true:=by have h4:=(holds_andW hc).1;rwa[hn]at h4
  have h5:=condW_of h4 (w_not (w_lt w_lit (w_len_list (w_arg rfl))));rw[Yc]at h5;refine Y1I λq=>?_;have q':(n:Int)<((ns.length:Nat):Int):=by omega
  first
   | (rw[Yt q']at h5;exact absurd h5 (by decide))
   | (simp at h5;omega)
 cases hwl with
 | cons w1 w2 =>
  cases w2;cases w1 with
  | list ho hall=>exact⟨_,_,ns,rfl,rfl,ho,Zi2 ns _ hall,hlen⟩
theorem Zb7(l:OpenLaw)(args:List WData):l.row.toRowW.claim.post args (.bool true) args=true :=
 postW_of (r:=l.row.toRowW) (X:=(true == true))
  (show WShape.has [] (.bool true) .bool=true by first | rfl | decide | simp[WShape.has,WShape.arms,WShape.armsAll])
  (show(WTm.eq .res (.lit (.bool true))).value [] { args:=args,res:=some (.bool true),after:=args }=some (.bool (true == true)) from w_eq_bool (w_res rfl) w_lit) rfl
theorem attach_call{l:OpenLaw}{n:Nat}{q:Program}{loose:List Str}{XP:Af->Heap->Prop}{YP:World->Heap->Prop}{d:DefRec}
  (hn:l.most=some n) (hdf:d.params.defaults=[])
  (call:∀(w:World) (s₀ s₁:Shared) (mg mb:Af) (fa:Addr) (o:Obj) (pm cd doc:Value) (a:Addr) (vs:Ag) (ns:Ac),
   Ground q loose [] XP w s₀ mg mb s₁.heap->YP w s₁.heap ->
   s₁.heap.get? fa=some o->o.data=.func (docDef d.name d.params d.body d.scope pm cd doc)->s₁.heap.CodeRec cd d.name->mg d.name=some (.ref fa) ->
   s₁.heap.get? a=some { cls:=.type "list",data:=.seq vs.toArray }->IntsAre vs ns->ns.length<=n->s₁.gens=#[] ->
   codeAny (model l.prog w) callerA (.call (.ref fa) ⟨[.ref a],[]⟩) (λr s'=>r=.ok (.ret (.bool true))/\OldK s₁.heap s'.heap/\s'.os=s₁.os/\AllBare s'.gens) s₁) :
  WalkO q loose XP YP l.row.toRowW d [] (λf vs=>PySem.call f vs):=by intro w s₀ s₁ mg mb G Y fa o pm cd doc dV kV ho hd hcd hD hmg hg args vals as hpre hlay hrd hwl hlo;obtain rfl:dV=.none:=Dflts.none hD hdf;obtain rfl:kV=.none:=Dflts.noKw hD;obtain⟨a,vs,ns,rfl,rfl,hobj,hints,hlen⟩:=Zz67 hn hpre hwl;refine enter_call (Y1l (call w s₀ s₁ mg mb fa o pm cd doc a vs ns G Y ho (fd_plain hd) hcd hmg hobj hints hlen hg) λr s' hq=>?_);obtain⟨rfl,h2,h3,h4⟩:=hq;exact⟨.inl ⟨.bool true,.bool true,[],rfl,λ_=>rfl,.bool true,Zb7 l _,λ_=>⟨List.Pairwise.nil,λ_ hm=>(nomatch hm)⟩⟩,h2,h3,h4⟩
section
def ZD13(h:Heap)(L d:Addr):List (Addr × Obj):=(List.range h.objs.size).filterMap λa=>if a=L\/a=d then none else (h.get? a).map λo=>(a,o)
end
end Att
namespace L2
open PySem PySem.Spec PyProof.Rows
theorem ZU3:∀ {vs:Ag} {ns:Ac},IntsAre vs ns->Vals (ns.map V.int) vs
 | _,_,.nil=>.nil
 | _,_,.cons n t h=>.cons ⟨t,rfl⟩ (ZU3 h)
abbrev KOf{K:Ad}{h:Heap}(_:K.In h):Ad:=K
def Zq11(s:Stmt)(j:Nat):Stmt:=match s with
 | .ClassDef _ _ _ body _ _ _ _ _ _ _=>body.getD j (.Pass ⟨0,0,0,0⟩)
 | _=>.Pass ⟨0,0,0,0⟩
def Zd2(s:Stmt):Arguments:=match s with
 | .FunctionDef _ a _ _ _ _ _ _ _ _=>a
 | _=>{ posonlyargs:=[],args:=[],vararg:=none,kwonlyargs:=[],kw_defaults:=[],kwarg:=none,defaults:=[] }
def Zi1(s:Stmt):List Stmt:=match s with
 | .FunctionDef _ _ b _ _ _ _ _ _ _=>b
 | _=>[]
def Zz4(s:Stmt):Scope:=match s with
 | .FunctionDef _ _ _ _ _ _ sc _ _ _=>sc
 | _=>{ kind:=.function,names:=[],isGenerator:=false,isCoroutine:=false }
abbrev CX0:CXT:=λ_ _ _ _ _ _=>False
abbrev E0:XK:=λ_ _ _=>False
theorem ZJ{X:Cx}:ZR3 CX0 X E0:=λ_ _ _ _ _ _ _ h=>h.elim
structure Fun (K:Ad) (x qual:Str) (st:Stmt) (f:Addr) (fd:FuncData):Prop where
 ex:∃(oc:Value) (od:Option Addr) (kV doc pm:Value) (an:Option Addr) (cdv ct:Value) (osl:Array (Option Value)),
  fd=PySem.W.fnOf x qual (Zd2 st) (Zi1 st) (Zz4 st) .none kV doc pm an cdv ct/\K.lookup f=some ⟨oc,od,.func fd,osl⟩/\PySem.W.codeIn K cdv qual=true
 kp:PySem.W.keepIn K (.ref f)=true
section
variable{P:Program}{w:World}{K:Ad}{mg:Af}{base:Heap}
theorem Fun.ok{x qual:Str}{st:Stmt}{f:Addr}{fd:FuncData}{N ps:List Str}{k:Nat}{sp:Sp}(F:Fun K x qual st f fd)(S:FnScope N ps (Zz4 st))(len:∀ vs H Q E,sp vs H Q E->vs.length=ps.length)
  (hbody:∀(cdv:Value) (A:Around) (outer:List Env) (s:Shared) (H:Hp) (vs:List V) (Q:VK) (E:XK),Room k (A.deeper (envOfC qual (Zz4 st) s.heap.objs.size f cdv))->sp vs H Q E ->
   ∃ t,PSs (cxOf CX0 P w K mg base N qual (Zz4 st) f cdv A outer s H E).nox (Zi1 st) t/\t { nx:=λ_ H'=>Q .non H',rt:=Q } (start N vs) H):FnOk P w K mg base CX0 (k+1) f fd ps sp:=by obtain⟨oc,od,kV,doc,pm,an,cdv,ct,osl,rfl,lk,hcd⟩:=F.ex;refine ZW12 lk hcd S len λA outer s H vs Q E hr hsp=>?_;obtain⟨t,h,q⟩:=hbody cdv A outer s H vs Q E hr hsp;exact⟨t,h.nox,q⟩
theorem Fun.binds{x qual:Str}{st:Stmt}{f:Addr}{fd:FuncData}{ps:List Str}(F:Fun K x qual st f fd)
  (h:∀(kV doc pm:Value) (an:Option Addr) (cdv ct:Value) (us:Ag),us.length=ps.length->bindArgs (PySem.W.fnOf x qual (Zd2 st) (Zi1 st) (Zz4 st) .none kV doc pm an cdv ct) ⟨us,[]⟩=pure (ps.zip us)):Binds K fd ps []:=by obtain⟨oc,od,kV,doc,pm,an,cdv,ct,osl,rfl,lk,hcd⟩:=F.ex;exact .all (h kV doc pm an cdv ct)
theorem ZH9{x qual:Str}{st:Stmt}{f:Addr}{oc:Value}{od an:Option Addr}{osl:Array (Option Value)}{kV doc pm cdv ct:Value}(l:K.lookup f=some ⟨oc,od,.func (PySem.W.fnOf x qual (Zd2 st) (Zi1 st) (Zz4 st) .none kV doc pm an cdv ct),osl⟩)
  (c:PySem.W.codeIn K cdv qual=true) (k:PySem.W.keepIn K (.ref f)=true):Fun K x qual st f (PySem.W.fnOf x qual (Zd2 st) (Zi1 st) (Zz4 st) .none kV doc pm an cdv ct):=⟨⟨oc,od,kV,doc,pm,an,cdv,ct,osl,rfl,l,c⟩,k⟩
end
section
variable{X:Cx}
theorem pv (i:Nat) {x:Str} {pos:Pos} (hN:X.N[i]?=some x:=by rfl) (hv:Vis X.env.scope x:=by first | exact Or.inl rfl | exact Or.inr (Or.inl rfl) | exact Or.inr (Or.inr rfl)) (hd:(x == ("__debug__":Str))=false:=by decide)
  (hcd:(x == ("__classdict__":Str))=false:=by decide):PE X (.Name x pos) (tVar i):=ZD12 hN hv hd hcd
end
theorem iteF{A B:Prop}(h:B):if false=true then A else B:=by rwa[if_neg Yq]
theorem iteT{A B:Prop}(h:A):if true=true then A else B:=by rwa[if_pos rfl]
theorem ite2{c A B:Prop}[Decidable c](h1:c->A)(h2:¬ c->B):if c then A else B:=by
 by_cases h:c
 .rw[if_pos h];exact h1 h
 .rw[if_neg h];exact h2 h
def Same(H H':Hp):Prop:=∀ b o,H b=some o->H' b=some o
theorem Same.refl(H:Hp):Same H H:=λ_ _ h=>h
theorem Same.trans{H H1 H2:Hp}(a:Same H H1)(b:Same H1 H2):Same H H2:=λc o h=>b c o (a c o h)
theorem Same.free{H H':Hp}(e:Same H H'){l:Addr}(h:H' l=Option.none):H l=Option.none:=by
 cases q:H l with
 | none=>rfl
 | some o =>
  rw[e l o q]at h;cases h
theorem Same.seq{K:Ad}{H H':Hp}{a:Addr}{xs:List V}(e:Same H H')(h:SqL K H a xs):SqL K H' a xs:=by
 rcases h with (h | ⟨o,h⟩) | h
 .exact .inl (.inl (e _ _ h))
 .exact .inl (.inr ⟨o,e _ _ h⟩)
 .exact .inr h
def PTs(X:Cx)(ifs:List Expr)(t:TT):Prop :=
 ∀(pins:List (Addr × Obj)) (s:Shared) (σ:St) (H:Hp) (Q:Bool->Hp->Prop),Inv X pins σ H s->t σ H Q ->
  wpAny (model X.prog X.w) X.A (forIn ifs true λc r=>if r=true then do let ok <- isTrue c X.env (eval c X.env);pure (ForInStep.yield ok) else pure (ForInStep.yield r)) (TP X pins σ Q) X.xe s
def tYes:TT:=λ_ H Q=>Q true H
theorem ZS:PTs X [] tYes:=λ_ _ _ H _ I h=>wpAny_tests_nil ⟨H,I,h⟩
theorem ZY2(hc:PT X c t):PTs X [c] t:=λpins s σ H Q I h=>wpAny_tests_one (hc pins s σ H Q I h)
theorem ZL3{R:Result->Shared->Prop}{elt target iter:Expr}{scope:Scope}{pos:Pos}{it acc:Value}(J:Nat->Shared->Prop)
  (turn:∀ n s,J n s->wpAny (model prog w) A (pyNext it) (λr s1=>match r with
   | none=>R (.ok .next) s1
   | some v=>wpAny (model prog w) A (letOwnedTupleGo target it v) (λ_ s2=>wpAny (model prog w) A (assign target env v) (λ_ s3 =>
     wpAny (model prog w) A (forIn ifs true λc r=>if r=true then do let ok <- isTrue c env (eval c env);pure (ForInStep.yield ok) else pure (ForInStep.yield r)) (λok s4 =>
      if ok=true then wpAny (model prog w) A (eval elt env) (λx s5 =>
       wpAny (model prog w) A (call (.builtin "list.append") [acc,x]) (λ_ s6=>∃ m,m<n/\J m s6) (λ_ _=>False) s5) (λ_ _=>False) s4
      else ∃ m,m<n/\J m s4) (λ_ _=>False) s3) (λ_ _=>False) s2) (λ_ _=>False) s1) (λ_ _=>False) s)
  (n:Nat) (h:J n s):codeAny (model prog w) A (.compLoop (.ListComp elt [⟨target,iter,ifs,0⟩] scope pos) 0 it acc env) R s:=by
 refine codeAny_loop rfl J (λn s hI=>?_) n h;show wpAny _ A ((compTurn (.ListComp elt [⟨target,iter,ifs,0⟩] scope pos) 0 it acc env).onRaise (λx=>do noteFrame x env;theTreesLotGoes x)) _ _ s
 refine wpAny_noted ?_;rw[compTurn_list];refine Yy0 (wpAny_standAt (Yy0 (Y0x (turn n s hI) (λr s1 h1=>?_) λ_ _ z=>z.elim)));cases r with
 | none=>exact Yf h1
 | some v =>
  refine Yy0 (Y0x h1 (λ_ s2 h2=>?_) λ_ _ z=>z.elim);refine Yy0 (Y0x h2 (λ_ s3 h3=>Yy0 (Y0x h3 (λok s4 h4=>?_) λ_ _ z=>z.elim)) λ_ _ z=>z.elim);cases ok with
  | false=>exact Yf ⟨rfl,h4⟩
  | true =>
   exact Yy0 (Yy0 (Y0x h4 (λx s5 h5=>Yy0 (Y0x h5 (λ_ s6 h6=>Yf (Yf ⟨rfl,h6⟩)) λ_ _ z=>z.elim)) λ_ _ z=>z.elim))
def ZE4(cells:List (Str × Addr)):List (Str × NameKind)->List (Str × Addr)->List (Str × Addr)
 | [],acc=>acc
 | (n,k) :: r,acc=>if k == .free then ZE4 cells r ((n,(cells.lookup n).getD 0) :: acc) else ZE4 cells r acc
theorem Ze3:∀(names:List (Str × NameKind)) (acc:List (Str × Addr)),(∀ y∈names,y.2=.free->∃ c,env.cells.lookup y.1=some c) ->
  (forIn names acc λ(x:Str × NameKind) (cs:List (Str × Addr))=>(if (x.2 == .free)=true then do let a <- cellOf env x.1;pure (ForInStep.yield ((x.1,a) :: cs)) else pure (ForInStep.yield cs):Sem (ForInStep (List (Str × Addr)))))=pure (ZE4 env.cells names acc)
 | [],acc,_=>rfl
 | (n,k) :: r,acc,h=>by
  have ih:=λacc=>Ze3 r acc λy hy=>h y (Yi _ hy);rw[Yy35];unfold ZE4;by_cases hk:(k == NameKind.free)=true
  .obtain⟨c,hc⟩:=h (n,k) Yk (by simpa using hk);have e:cellOf env n=pure c:=by unfold cellOf;rw[show env.cells.lookup n=some c from hc]
   simp only [hk,Yy38,e,pure_bind];rw[ih,show env.cells.lookup n=some c from hc];rfl
  .simp only [hk,Y2z,if_false,pure_bind];exact ih acc
theorem ZP6(h:∀ y∈scope.names,y.2=.free->∃ c,env.cells.lookup y.1=some c):closureFor scope env=pure (ZE4 env.cells scope.names []):=by have e:=Ze3 scope.names [] h;unfold closureFor;simp only [bind_pure]at e ⊢;exact e
theorem ZK2{env:Env}:∀(names:List (Str × NameKind)) (acc:List (Str × Addr)),(∀ y∈names,y.2=.free->∃ c,env.cells.lookup y.1=some c)->(∀ x c,acc.lookup x=some c->env.cells.lookup x=some c) ->
  ∀ x c,(ZE4 env.cells names acc).lookup x=some c->env.cells.lookup x=some c
 | [],acc,_,ha,x,c,e=>ha x c e
 | (n,k) :: r,acc,h,ha,x,c,e=>by
  unfold ZE4 at e;by_cases hk:(k == NameKind.free)=true
  .rw[if_pos hk]at e;obtain⟨d,hd⟩:=h (n,k) Yk (by simpa using hk);refine ZK2 r _ (λy hy=>h y (Yi _ hy)) (λy b q=>?_) x c e;rw[Y0Q]at q;by_cases hy:(y == n)=true
   .rw[hy]at q;have hy':y=n:=by simpa using hy
    have hd':env.cells.lookup n=some d:=hd;rw[hd']at q;have q':d=b:=Yd q
    rw[hy',hd',q']
   .have hy':(y == n)=false:=by simpa using hy
    rw[hy']at q;exact ha y b q
  .rw[if_neg hk]at e;exact ZK2 r acc (λy hy=>h y (Yi _ hy)) ha x c e
theorem ZL2:∀(names:List (Str × NameKind)) (acc:List (Str × Addr)) (x:Str),(acc.lookup x).isSome=true->((ZE4 cells names acc).lookup x).isSome=true
 | [],_,_,h=>h
 | (n,k) :: r,acc,x,h=>by
  unfold ZE4;by_cases hk:(k == NameKind.free)=true
  .rw[if_pos hk];refine ZL2 r _ x ?_;rw[Y0Q];by_cases hx:(x == n)=true
   .rw[hx];rfl
   .have hx':(x == n)=false:=by simpa using hx
    rwa[hx']
  .rw[if_neg hk];exact ZL2 r acc x h
theorem ZS1:∀(names:List (Str × NameKind)) (acc:List (Str × Addr)) (x:Str),(x,NameKind.free)∈names->((ZE4 cells names acc).lookup x).isSome=true
 | [],_,_,h=>nomatch h
 | (n,k) :: r,acc,x,h=>by
  unfold ZE4;rcases Ye.mp h with e | h
  .cases e;rw[if_pos (by rfl)];refine ZL2 r _ _ ?_;rw[Y0Q];simp
  .by_cases hk:(k == NameKind.free)=true
   .rw[if_pos hk];exact ZS1 r _ x h
   .rw[if_neg hk];exact ZS1 r _ x h
theorem ZP{env:Env}:∀ {names:List (Str × NameKind)} {x:Str} {k:NameKind},(names.map λ(n,k)=>if (k == NameKind.free && env.scope.kind == .function && env.kindOf n == some .cell) then (n,NameKind.cell) else (n,k)).lookup x=some k ->
  (k=.cell\/k=.free)->(x,NameKind.free)∈names\/(x,NameKind.cell)∈names
 | [],_,_,h,_=>by simp at h
 | (n,q) :: r,x,k,h,hk=>by
  have h':List.lookup x ((if (q == NameKind.free && env.scope.kind == .function && env.kindOf n == some .cell)=true then (n,NameKind.cell) else (n,q)) :: r.map λ(n,k)=>if (k == NameKind.free && env.scope.kind == .function && env.kindOf n == some .cell) then (n,NameKind.cell) else (n,k))=some k:=h;by_cases hc:(q == NameKind.free && env.scope.kind == .function && env.kindOf n == some .cell)=true
  .rw[if_pos hc,Y0Q]at h';have hq:q=.free:=by simp only [Y0r,Y0X]at hc;exact hc.1.1
   by_cases hx:(x == n)=true
   .have hx':x=n:=by simpa using hx
    subst hx';subst hq;exact .inl Yk
   .have hx':(x == n)=false:=by simpa using hx
    rw[hx']at h';rcases ZP (env:=env) h' hk with z | z
    .exact .inl (Yi _ z)
    .exact .inr (Yi _ z)
  .rw[if_neg hc,Y0Q]at h';by_cases hx:(x == n)=true
   .rw[hx]at h';have hx':x=n:=by simpa using hx
    subst hx';have e:q=k:=Yd h'
    subst e;rcases hk with rfl | rfl
    .exact .inr Yk
    .exact .inl Yk
   .have hx':(x == n)=false:=by simpa using hx
    rw[hx']at h';rcases ZP (env:=env) h' hk with z | z
    .exact .inl (Yi _ z)
    .exact .inr (Yi _ z)
theorem Zp1{env:Env}:∀ {names:List (Str × NameKind)} {x:Str},names.lookup x=some .free ->
  (names.map λ(n,k)=>if (k == NameKind.free && env.scope.kind == .function && env.kindOf n == some .cell) then (n,NameKind.cell) else (n,k)).lookup x=some .cell \/
  (names.map λ(n,k)=>if (k == NameKind.free && env.scope.kind == .function && env.kindOf n == some .cell) then (n,NameKind.cell) else (n,k)).lookup x=some .free
 | [],_,h=>by simp at h
 | (n,q) :: r,x,h=>by
  show List.lookup x ((if (q == NameKind.free && env.scope.kind == .function && env.kindOf n == some .cell)=true then (n,NameKind.cell) else (n,q)) :: _)=_\/List.lookup x ((if (q == NameKind.free && env.scope.kind == .function && env.kindOf n == some .cell)=true then (n,NameKind.cell) else (n,q)) :: _)=_;rw[Y0Q]at h;by_cases hc:(q == NameKind.free && env.scope.kind == .function && env.kindOf n == some .cell)=true
  .rw[if_pos hc,Y0Q];by_cases hx:(x == n)=true
   .rw[hx];exact .inl rfl
   .have hx':(x == n)=false:=by simpa using hx
    rw[hx']at h ⊢;exact Zp1 h
  .rw[if_neg hc,Y0Q];by_cases hx:(x == n)=true
   .rw[hx]at h ⊢;exact .inr h
   .have hx':(x == n)=false:=by simpa using hx
    rw[hx']at h ⊢;exact Zp1 h
def cxC(X:Cx)(N':List Str)(scope:Scope)(C:Addr)(s:Shared)(H:Hp)(fp:List Addr):Cx where
 prog:=X.prog
 w:=X.w
 K:=X.K
 mg:=X.mg
 base:=X.base
 A:=X.A
 N:=N'
 s₀:=s
 H₀:=H
 env:=compEnvC scope (ZE4 X.env.cells scope.names []) C X.env
 outer:=X.stack
 stack:=X.stack
 ex:=fp
 fn:=λ_=>false
 calm:=X.calm
 pn:=[]
 xe:=λ_ _=>False
def σC(o:Nat)(fr:List Nat)(σ:St):St:=List.replicate o none++fr.map λj=>(σ[j]?).join
structure CompScope (sc0:Scope) (N N':List Str) (o:Nat) (fr:List Nat) (scope:Scope):Prop where
 kind:scope.kind=.function
 nocell:(scope.names.all λy=>y.2 != .cell)=true
 loc:(scope.names.all λy=>y.2 != .local || scope.names.lookup y.1 == some .local)=true
 free:(scope.names.all λy=>y.2 != .free || sc0.names.lookup y.1 == some .cell || sc0.names.lookup y.1 == some .free)=true
 len:N'.length=o+fr.length
 sees:((List.range fr.length).all λj=>match fr[j]? with
  | none=>false
  | some y=>match N[y]? with
   | none=>false
   | some x=>N'[o+j]? == some x && scope.names.lookup x == some .free)=true
def LcR(J:It)(g:TG)(tt:TT)(te:TE)(o:Nat)(fr:List Nat)(σ:St)(H1:Hp)(Q:VK):Prop:=∃ W:Nat->Nat->List V->Hp->Prop,(∃ m,W 0 m [] H1)/\∀ i m ys H,W i m ys H ->
 (J.stop i H/\ys.length<=sizeLine/\∀ p,H p=none->Q (.ref p) (upd H p (.lst ys))) \/
 (J.go i H/\ys.length<sizeLine/\∀ x H',J.yld i H x H'->g x (σC o fr σ) H' λσ2 H2=>tt σ2 H2 λb H3=>if b=true then te σ2 H3 λy H4=>∃ m',m'<m/\W (i+1) m' (ys++[y]) H4 else ∃ m',m'<m/\W (i+1) m' ys H3)
def tLc(wi:TI)(g:TG)(tt:TT)(te:TE)(o:Nat)(fr:List Nat):TE:=λσ H Q=>wi σ H λJ H1=>LcR J g tt te o fr σ H1 Q
def OwnG(o:Nat)(g:TG):Prop:=∀(x:V) (ow fr:St) (H:Hp) (Q:St->Hp->Prop),ow.length=o->g x (ow++fr) H Q->g x (ow++fr) H λσ2 H2=>(∃ ow',ow'.length=o/\σ2=ow'++fr)/\Q σ2 H2
theorem ZK(h:i<o):OwnG o (Zs8 i):=λx ow fr H Q hl q=>⟨⟨ow.set i (some x),by rw[Y0y];exact hl,by rw[List.set_append_left _ _ (by lia)]⟩,q⟩
def Zz812(o:Nat)(g:TGs):Prop:=∀(xs:List V) (ow fr:St) (H:Hp) (Q:St->Hp->Prop),ow.length=o->g xs (ow++fr) H Q->g xs (ow++fr) H λσ2 H2=>(∃ ow',ow'.length=o/\σ2=ow'++fr)/\Q σ2 H2
theorem Zz32:Zz812 o gNil:=λ_ ow _ _ _ hl ⟨e,q⟩=>⟨e,⟨ow,hl,rfl⟩,q⟩
theorem ZH(h:i<o)(h2:Zz812 o u):Zz812 o (Ze13 (Zs8 i) u):=by
 rintro xs ow fr H Q hl ⟨v,r,rfl,q⟩;refine⟨v,r,rfl,?_⟩;have q':u r ((ow++fr).set i (some v)) H Q:=q
 show u r ((ow++fr).set i (some v)) H _;rw[List.set_append_left _ _ (by omega)]at q' ⊢;exact h2 r (ow.set i (some v)) fr H Q (by rwa[Y0y]) q'
theorem Zz22{K:Ad}{o n:Nat}{u:TGs}(h:Zz812 o u):OwnG o (gTup K n u):=by rintro x ow fr H Q hl ⟨a,xs,rfl,hs,hn,q⟩;exact⟨a,xs,rfl,hs,hn,h xs ow fr H Q hl q⟩
section
variable{X:Cx}{pins:List (Addr × Obj)}{σ:St}{H:Hp}{s:Shared}{N':List Str}{o:Nat}{fr:List Nat}{scope:Scope}{fp:List Addr}
abbrev Zz81 (us:Ag):Obj:={ cls:=.type "list",data:=.seq us.toArray us.length }
theorem CompScope.nocell'(S:CompScope sc0 N N' o fr scope):∀ y∈scope.names,y.2≠.cell:=λy hy e=>by have q:=Y0q.mp S.nocell y hy;rw[e]at q;exact absurd q (by decide)
theorem CompScope.loc'(S:CompScope sc0 N N' o fr scope):∀ y∈scope.names,y.2=.local->scope.names.lookup y.1=some .local:=λy hy e=>by have q:=Y0q.mp S.loc y hy;rw[e]at q;simpa using q
theorem CompScope.free'(S:CompScope sc0 N N' o fr scope)(hs:X.env.scope=sc0):∀ y∈scope.names,y.2=.free->X.env.kindOf y.1=some .cell\/X.env.kindOf y.1=some .free:=λy hy e=>by
 have q:=Y0q.mp S.free y hy;rw[e]at q;show X.env.scope.names.lookup y.1=_\/X.env.scope.names.lookup y.1=_
 rw[hs];simpa using q
theorem CompScope.sees'(S:CompScope sc0 N N' o fr scope):∀ j y,fr[j]?=some y->∃ x,N[y]?=some x/\N'[o+j]?=some x/\scope.names.lookup x=some .free:=λj y e=>by
 have hj:j<fr.length:=(Yy3.mp e).1;have q:=Y0q.mp S.sees j (YG.mpr hj)
 rw[e]at q;dsimp only at q;cases ex:N[y]? with
 | none=>rw[ex]at q;cases q
 | some x =>
  rw[ex]at q;dsimp only at q;rw[Y0r,Y0X,Y0X]at q;exact⟨x,rfl,q.1,q.2⟩
theorem CompScope.cells(S:CompScope sc0 N0 N' o fr scope)(hs:X.env.scope=sc0)(I:Inv X pins σ H s):∀ y∈scope.names,y.2=.free->∃ c,X.env.cells.lookup y.1=some c:=λy hy e=>I.ok.has y.1 (S.free' hs y hy e)
theorem CompScope.sub(S:CompScope sc0 N0 N' o fr scope)(hs:X.env.scope=sc0)(I:Inv X pins σ H s):∀ x c,(ZE4 X.env.cells scope.names []).lookup x=some c->X.env.cells.lookup x=some c :=
 ZK2 (env:=X.env) scope.names [] (S.cells hs I) (λ_ _ z=>nomatch z)
theorem Inv.block(S:CompScope sc0 N0 N' o fr scope)(hs:X.env.scope=sc0)(hN:X.N=N0)(I:Inv X pins σ H s)(hf:∀ b∈fp,FpOk X pins H b)(hfl:∀ b∈fp,b<s.heap.objs.size){h1:Heap}{C D:Addr}{m:Af}{t:Nat}
  (hC:s.heap.objs.size<=C) (hD:s.heap.objs.size<=D) (hDC:D≠C)
  (old:∀ b ob,s.heap.get? b=some ob->h1.get? b=some ob) (hn:h1.Ns C m) (ha:h1.get? D=some (Zz81 us)):Inv (cxC X N' scope C s H fp) [(D,Zz81 us)] (σC o fr σ) H { s with heap:=h1,toks:=t }:=by
 have sub:=S.sub hs I;have frC:∀ b∈frs X.stack,b<s.heap.objs.size:=λb hb=>by obtain⟨_,ob,ho,_⟩:=I.stack.mem hb;exact Yh ho
 refine⟨⟨I.ok.mod,S.kind,I.ok.glob,I.ok.blt,hC,λx y c h1 h2=>I.ok.inj x y c (sub x c h1) (sub y c h2),λx hx=>?_,λx c hfx _=>(nomatch hfx),I.ok.hd,I.ok.frames,.inl rfl,λb hb=>?_,I.bs,YD I.ok.bsz I.sz,λb ob e hb=>?_,λb hb hb'=>?_,I.stack,I.stkFree⟩,
  rfl,I.bare,Un.kept old,⟨m,hn,λi x v e1 e2 e3=>?_⟩,λx c e=>?_,I.hok.fresh hC,λx c e=>I.freeC x c (sub x c e),λp hp=>?_,I.hok.kept old,?_⟩
 .have hx':(relabel scope X.env).names.lookup x=some .cell\/(relabel scope X.env).names.lookup x=some .free:=hx;have key:(x,NameKind.free)∈scope.names:=by
   rcases hx' with z | z
   .rcases ZP (env:=X.env) z (.inl rfl) with q | q
    .exact q
    .exact absurd rfl (S.nocell' _ q)
   .rcases ZP (env:=X.env) z (.inr rfl) with q | q
    .exact q
    .exact absurd rfl (S.nocell' _ q)
  exact Yy21.mp (ZS1 (cells:=X.env.cells) scope.names [] x key)
 .obtain⟨f0,f1,f2,f3,f4,f5⟩:=hf b hb;exact⟨Yo (Ym (hfl b hb) hC),λx c e=>f4 x c (sub x c e)⟩
 .obtain⟨f0,f1,f2,f3,f4,f5⟩:=hf b hb;rcases f3 with z | z
  .exact I.ok.noex b ob e z
  .exact absurd (Ym (Yh e) (YD I.ok.bsz z)) (Y0I _)
 .obtain⟨f0,f1,f2,f3,f4,f5⟩:=hf b hb;rcases Ye.mp (I.stkSub b hb') with z | z
  .exact f1 z
  .exact f2 z
 .unfold σC at e2;by_cases hi:i<o
  .rw[Yu (by rwa[YF]),Y1n,if_pos hi]at e2;cases e2
  .rw[Yv (by rw[YF];exact Nat.not_lt.mp hi),YF,Yp]at e2;cases hy:fr[i - o]? with
   | none=>rw[hy]at e2;cases e2
   | some y =>
    rw[hy]at e2;have e2':(σ[y]?).join=some v:=Yd e2
    have e3':σ[y]?=some (some v):=by
     cases q:σ[y]? with
     | none=>rw[q]at e2';cases e2'
     | some z=>rw[q]at e2';exact YZ some e2'
    obtain⟨x',s2,s1,s3⟩:=S.sees' (i - o) y hy;rw[<- hN]at s2;rw[show o+(i - o)=i by grind]at s1;have ex:x=x':=by have e1':N'[i]?=some x:=e1;rw[e1']at s1;exact Yd s1
    subst ex;have hmem:=Y0H s3
    obtain⟨m0,_,hl⟩:=I.loc;have hk:=S.free' hs (x,.free) hmem rfl
    obtain⟨u,ru,lk⟩:=hl y x v s2 e3' (by rcases hk with z | z;exact .inr (.inl z);exact .inr (.inr z));refine⟨u,ru,.inr ⟨Zp1 (env:=X.env) s3,?_⟩⟩;obtain⟨c',hc'⟩:=Yy21.mp (ZS1 (cells:=X.env.cells) scope.names [] x hmem);refine⟨c',hc',?_⟩;rcases lk with ⟨z,_⟩ | ⟨_,c,e,ob,ho,hd⟩
    .rcases hk with z' | z'
     .rw[z]at z';cases z'
     .rw[z]at z';cases z'
    .have ec:c=c':=by
      have:=sub x c' hc'
      rw[e]at this;exact Yd this
     subst ec;exact⟨ob,old _ _ ho,hd⟩
 .obtain⟨v,ob,ho,hd⟩:=I.cell x c (sub x c e);exact⟨v,ob,old _ _ ho,hd⟩
 .have e:p=(D,Zz81 us):=by simpa using (show p∈([]:List (Addr × Obj))++[(D,Zz81 us)] from hp)
  subst e;refine⟨ha,I.hok.fresh hD,hDC,λz=>absurd (Ym (frC D z) hD) (Y0I _),λv z=>nomatch z⟩
 .show(σC o fr σ).length=N'.length;unfold σC;rw[Yy5,YF,Yc,S.len]
theorem Inv.unblock(I:Inv X pins σ H s)(hf:∀ b∈fp,FpOk X pins H b){σ':St}{s':Shared}(hC:s.heap.objs.size<=C)(hD:s.heap.objs.size<=D)(hDC:D≠C)
  (I':Inv (cxC X N' scope C s H fp) [(D,Zz81 us)] σ' H' s') (r:Vals ys us) (hz:ys.length<=sizeLine):∃ oC m,s'.heap.get? C=some oC/\s'.heap.Ns C m/\Inv X (pins++[(C,oC)]) σ (upd H' D (.lst ys)) s':=by
 obtain⟨aD,nD,_,_,_⟩:=I'.pin (D,Zz81 us) (by simp);have aD:s'.heap.get? D=some (Zz81 us):=aD
 have nD:H' D=none:=nD;have un:Un (frs X.stack) fp H H' s.heap s'.heap:=I'.base
 have lt:∀ b u,H b=some u->b≠D:=λb u e=>Yo (Ym (I.hok.lt e) hD);have un2:Un (frs X.stack) fp H (upd H' D (.lst ys)) s.heap s'.heap:=by
  refine⟨un.keep,un.slot,λb ob e n hx=>?_,un.there,λb xs e=>?_,λb ob u e=>?_,λb ps e=>?_⟩
  .rw[Zz9 (Yo (Ym (Yh e) hD))];exact un.free b ob e n hx
  .rw[Zz9 (lt b _ e)];exact un.tups b xs e
  .rw[Zz9 (lt b _ e)];exact un.frzs b ob u e
  .obtain⟨more,q⟩:=un.tbls b ps e;exact⟨more,by rwa[Zz9 (lt b _ e)]⟩
 have hok:HOk X.prog X.w (upd H' D (.lst ys)) s'.heap:=λb u e=>by
  by_cases hb:b=D
  .subst hb;rw[Zz1]at e;cases e;exact⟨hz,us,us.length,r,aD⟩
  .rw[Zz9 hb]at e;exact(I'.hok b u e).stay (λc v _ q=>q) (λc q=>by rwa[Zz9 (Zb q nD)]) λc xs q=>by rwa[Zz9 (Zb q nD)]
 have os:s'.os=s.os:=I'.os;have J:Inv X pins σ (upd H' D (.lst ys)) s':=I.call' (ch:=fp) os un2 hok I'.bare λb hb=>by obtain⟨f0,f1,f2,f3,f4,f5⟩:=hf b hb;exact⟨f3,f1,f4,f5⟩
 obtain⟨m,hn,_⟩:=I'.loc;have hn:s'.heap.Ns C m:=hn
 obtain⟨oC,es,ep,hoC,hdC,_⟩:=id hn;refine⟨oC,m,hoC,hn,J.pins_of λp hp=>?_⟩;rcases Ya.mp hp with z | z
 .exact J.pin p (Yb _ z)
 .have e:p=(C,oC):=by simpa using z
  subst e;have nC:H' C=none:=I'.free
  refine⟨hoC,by rw[Zz9 (YR hDC)];exact nC,Y0u (Ym I.lt hC),I.nofs hC,λv z=>?_⟩;have z':oC.data=.cell v:=z
  rw[hdC]at z';cases z'
end
section
variable{X:Cx}{N':List Str}{o:Nat}{fr:List Nat}{scope:Scope}{elt tg iter:Expr}{ifs:List Expr}{pos:Pos}{wi:TI}{g:TG}{tt:TT}{te:TE}
theorem Zh11(hc:X.calm=true)(S:CompScope sc0 N0 N' o fr scope)(hi:PI X tg iter wi)(ho:OwnG o g)
  (hg:∀(C:Addr) (s:Shared) (H:Hp) (fp:List Addr),PG (cxC X N' scope C s H fp) tg g)
  (ht:∀(C:Addr) (s:Shared) (H:Hp) (fp:List Addr),PTs (cxC X N' scope C s H fp) ifs tt)
  (he:∀(C:Addr) (s:Shared) (H:Hp) (fp:List Addr),PE (cxC X N' scope C s H fp) elt te)
  (hs:∀ x,foldedSetIterable iter X.env x=pure x) (hsc:X.env.scope=sc0) (hN0:X.N=N0) (I:Inv X pins σ H s) (h:tLc wi g tt te o fr σ H Qv)
  {use:Option (Value->Sem Unit)} {Q:Ae} {E:Ae}
  (hE:∀ e s',X.xe e s'->E e s')
  (fin:∀(C oC D:_) (m:Af) (H':Hp) (ys:List V) (s':Shared),Inv X (pins++[(C,oC)]) σ (upd H' D (.lst ys)) s'->Qv (.ref D) (upd H' D (.lst ys))->s'.heap.Ns C m->H' C=none->C≠D ->
   C≠X.env.locals->X.s₀.heap.objs.size<=C->(∀ x c,X.env.cells.lookup x=some c->c≠C)->(∀ p∈X.pn++pins,p.1≠C)->compPost (model X.prog X.w) X.A E use Q (.ref D) C (.ok .next) s') :
  wpAny (model X.prog X.w) X.A (comprehension (.ListComp elt [⟨tg,iter,ifs,0⟩] scope pos) scope X.env (firstIterPos [⟨tg,iter,ifs,0⟩] pos) (newList []) false (eval iter X.env) use) Q E s:=by
 refine wpAny_comprehension_free (use:=use) rfl hs (ZP6 (S.cells hsc I)) S.kind S.loc' (Y0x (hi pins s σ H _ I h) (λxv s1 h1=>Y0x h1 (λitv s2 h2=>?_) hE) hE);obtain⟨it,fp,tn,J,H2,rfl,I2,T,st2,f2,W,⟨m0,w0⟩,turn⟩:=h2;have hfl:∀ b∈fp,b<s2.heap.objs.size:=λb hb=>by obtain⟨ob,e,_⟩:=T.obj 0 _ st2 b hb;exact Yh e
 refine Y0h (wpAny_newFunctionEnv S.nocell' (by intro y hy;simp at hy) (λh1 hns1 hsb1=>?_) S.kind);dsimp only at hns1 hsb1 ⊢;generalize hH2:s2.heap.push { cls:=.type "list",dict:=none,data:=.seq ([]:Ag).toArray }=G at hns1 hsb1 ⊢;have hCe:G.objs.size=s2.heap.objs.size+1:=by rw[<- hH2,Y0n]
 have hC:s2.heap.objs.size<=G.objs.size:=by rw[hCe];exact Y0P _
 have hDC:s2.heap.objs.size≠G.objs.size:=by rw[hCe];exact Yo (Y0i _)
 have old:∀ b ob,s2.heap.get? b=some ob->h1.get? b=some ob:=λb ob e =>
  hsb1.extBut b ob (Yo (Ym (Yh e) hC)) (Yy4 _ (hH2 ▸ Yy4 _ e))
 have hacc:h1.get? s2.heap.objs.size=some (Zz81 []):=hsb1.extBut _ _ hDC (Yy4 _ (hH2 ▸ Yj _ rfl));have st1:tn 0 h1:=T.keep _ _ _ st2 λb _ ob e=>old b ob e
 have fpC:∀ {us:Ag} {H':Hp},(∀ b∈fp,H' b=none)->∀ b∈fp,FpOk (cxC X N' scope G.objs.size s2 H2 fp) [(s2.heap.objs.size,Zz81 us)] H' b:=λ{us H'} hn b hb=>by
  obtain⟨f0,f1,f3,f4,f5,f6⟩:=f2 b hb;refine⟨hn b hb,Yo (Ym (hfl b hb) hC),λz=>?_,.inl hb,λx c e=>f5 x c (S.sub hsc I2 x c e),λp hp=>?_⟩
  .rcases Ye.mp (I2.stkSub b z) with q | q
   .exact f1 q
   .exact f3 q
  .have e:p=(s2.heap.objs.size,Zz81 us):=by simpa using (show p∈([]:List (Addr × Obj))++[(s2.heap.objs.size,Zz81 us)] from hp)
   subst e;exact Y0u (hfl b hb)
 have loop:∀ s3:Shared,s3={ s2 with heap:=h1,toks:=s2.toks+([]:List (Str × Value)).length } ->
   codeAny (model X.prog X.w) X.A (.compLoop (.ListComp elt [⟨tg,iter,ifs,0⟩] scope pos) 0 (.ref it) (.ref s2.heap.objs.size) (compEnvC scope (ZE4 X.env.cells scope.names []) G.objs.size X.env))
    (compPost (model X.prog X.w) X.A E use Q (.ref s2.heap.objs.size) G.objs.size) s3:=by
  rintro s3 rfl;refine ZL3 (λn s'=>∃ i σ' H' ys us,Inv (cxC X N' scope G.objs.size s2 H2 fp) [(s2.heap.objs.size,Zz81 us)] σ' H' s'/\σ'=σC o fr σ/\Vals ys us/\tn i s'.heap/\(∀ b∈fp,H' b=none)/\W i n ys H') ?_ m0
   ⟨0,_,H2,[],[],I2.block S hsc hN0 f2 hfl hC (Yy6 _) hDC old hns1 hacc,rfl,.nil,st1,λb hb=>(f2 b hb).1,w0⟩
  rintro n s' ⟨i,σ',H',ys,us,I',rfl,rv,st',fr',w'⟩;rcases turn i n ys H' w' with ⟨stop,hz,q⟩ | ⟨go,hz,step⟩
  .refine thn (T.done (cxC X N' scope G.objs.size s2 H2 fp) rfl rfl rfl hc i _ s' _ H' _ I' (fpC fr') st' stop) λr s4 ⟨hr,I4⟩=>?_;subst hr;obtain⟨oC,m,hoC,hn,J4⟩:=I2.unblock f2 hC (Yy6 _) hDC I4 rv hz;exact fin _ oC _ m H' ys s4 J4 (q _ (I4.pin (s2.heap.objs.size,Zz81 us) (by simp)).2.1) hn I4.free (YR hDC) (Y0u (Ym I2.lt hC)) (YD I2.sz hC)
    (λx c e=>by obtain⟨v,z⟩:=I2.cell x c e;exact Yo (Ym z.lt hC)) λp hp=>Yo (Ym (Yh (I2.pin p hp).1) hC)
  .refine thn (T.item (cxC X N' scope G.objs.size s2 H2 fp) rfl rfl rfl hc i _ s' _ H' _ I' (fpC fr') st' go) λr s4 hz0=>?_;obtain⟨u,hr,h4⟩:=hz0;subst hr;refine thn h4 λ_ s5 hz0=>?_;obtain⟨x,H5,I5,r5,y5,st5,fr5⟩:=hz0;have hst:=step x H5 y5
   have hst':=ho x (List.replicate o none) (fr.map λj=>(σ[j]?).join) H5 _ (YF ..) hst;have I5':=I5.pinned (fpC (us:=us) fr5) (T.obj _ _ st5)
   refine thn (hg _ _ _ _ _ s5 _ H5 x u _ I5' r5 hst') λ_ s6 hz0=>?_;obtain⟨σ6,H6,I6,⟨ow,hol,e6⟩,q6⟩:=hz0;subst e6;refine thn (ht _ _ _ _ _ s6 _ H6 _ I6 q6) λb s7 hz0=>?_;obtain⟨H7,I7,q7⟩:=hz0;have back:∀ {us':Ag} {σ8:St} {H8:Hp} {s8:Shared},Inv (cxC X N' scope G.objs.size s2 H2 fp) ([(s2.heap.objs.size,Zz81 us')]++Zw2 fp s5.heap) (ow++fr.map λj=>(σ[j]?).join) H8 s8 ->
     Inv (cxC X N' scope G.objs.size s2 H2 fp) [(s2.heap.objs.size,Zz81 us')] (σC o fr σ) H8 s8/\tn (i+1) s8.heap/\∀ b∈fp,H8 b=none:=λ{us' σ8 H8 s8} I8=>by
    refine⟨I8.unpinned.weak ?_ λj v e=>?_,T.keep _ _ _ st5 λb hb ob e=>(I8.pin (b,ob) (Yb _ (Yb _ (Zu1 hb e)))).1,λb hb=>?_⟩
    .unfold σC;rw[Yy5,Yy5,YF,hol]
    .unfold σC at e;by_cases hj:j<o
     .rw[Yu (by rwa[YF]),Y1n,if_pos hj]at e;cases e
     .rw[Yv (by rw[YF];exact Nat.not_lt.mp hj),YF]at e;rwa[Yv (by rw[hol];exact Nat.not_lt.mp hj),hol]
    .obtain⟨ob,e,_⟩:=T.obj _ _ st5 b hb;exact(I8.pin (b,ob) (Yb _ (Yb _ (Zu1 hb e)))).2.1
   cases b with
   | false =>
    rw[if_neg Yq]at q7 ⊢;obtain⟨m',hm,w7⟩:=q7;obtain⟨I8,st8,fr8⟩:=back (us':=us) (σ8:=[]) I7;exact⟨m',hm,i+1,_,H7,ys,us,I8,rfl,rv,st8,fr8,w7⟩
   | true =>
    rw[if_pos rfl]at q7 ⊢;refine thn (he _ _ _ _ _ s7 _ H7 _ I7 q7) λy s8 hz0=>?_;obtain⟨yv,H8,I8,r8,m',hm,w8⟩:=hz0;obtain⟨aD,nD,_,_,_⟩:=I8.pin (s2.heap.objs.size,Zz81 us) (by simp);have aD:s8.heap.get? s2.heap.objs.size=some (Zz81 us):=aD
    have nD:H8 s2.heap.objs.size=none:=nD;have hul:us.length<=sizeLine:=by rw[<- rv.length];exact Y1J hz
    refine append_at (hsz:=by show us.toArray.size<=sizeLine;rwa[Yy9]) aD λh9 hs9 hD9=>?_;have hD9':h9.get? s2.heap.objs.size=some (Zz81 (us++[y])):=by
     rw[hD9];show some ({ cls:=.type "list",data:=.seq (us.toArray.push y) (us.length+1) }:Obj)=some { cls:=.type "list",data:=.seq (us++[y]).toArray (us++[y]).length }
     rw[Yy5,YB,List.push_toArray]
    have I9:Inv (cxC X N' scope G.objs.size s2 H2 fp) (Zw2 fp s5.heap) (ow++fr.map λj=>(σ[j]?).join) H8 { s8 with heap:=h9 } :=
     (I8.pins_of (pins':=Zw2 fp s5.heap) λp hp=>I8.pin p (Yb _ (Yb _ hp))).turned (t':=s8.toks) (it:=s2.heap.objs.size) (λb ob hb e=>hs9.extBut b ob hb e) nD hDC (.inr (Yy6 _))
      (λx c e=>by obtain⟨v,z⟩:=I2.cell x c (S.sub hsc I2 x c e);exact Yo z.lt)
      λp hp=>by obtain⟨hb,_⟩:=Za4 (show p∈Zw2 fp s5.heap from by simpa [cxC] using hp);exact Yo (hfl p.1 hb)
    have I9':Inv (cxC X N' scope G.objs.size s2 H2 fp) ([(s2.heap.objs.size,Zz81 (us++[y]))]++Zw2 fp s5.heap) (ow++fr.map λj=>(σ[j]?).join) H8 { s8 with heap:=h9 } :=
     I9.pins_of λp hp=>by
      rcases Ya.mp hp with z | z
      .have e:p=(s2.heap.objs.size,Zz81 (us++[y])):=by simpa using z
       subst e;refine⟨hD9',nD,hDC,λz=>?_,λv z=>nomatch z⟩;obtain⟨_,ob,hob,_⟩:=I2.stack.mem z;exact Y0I _ (Yh hob)
      .exact I9.pin p (Yb _ z)
    obtain⟨I10,st10,fr10⟩:=back (us':=us++[y]) (σ8:=[]) I9';exact⟨m',hm,i+1,_,H8,ys++[yv],us++[y],I10,rfl,Vals.append rv (.cons r8 .nil),st10,fr10,w8⟩
 exact codeAny_compStart_list (loop _ rfl) (T.self _ 0 _ _ _ st1 (loop _ rfl))
theorem ZP4(hc:X.calm=true)(S:CompScope sc0 N0 N' o fr scope)(hi:PI X tg iter wi)(ho:OwnG o g)
  (hg:∀(C:Addr) (s:Shared) (H:Hp) (fp:List Addr),PG (cxC X N' scope C s H fp) tg g)
  (ht:∀(C:Addr) (s:Shared) (H:Hp) (fp:List Addr),PTs (cxC X N' scope C s H fp) ifs tt)
  (he:∀(C:Addr) (s:Shared) (H:Hp) (fp:List Addr),PE (cxC X N' scope C s H fp) elt te)
  (hs:∀ x,foldedSetIterable iter X.env x=pure x:=by intro _;rfl) (hsc:X.env.scope=sc0:=by rfl) (hN0:X.N=N0:=by rfl):PE X (.ListComp elt [⟨tg,iter,ifs,0⟩] scope pos) (tLc wi g tt te o fr):=by intro pins s σ H Q I h;rw[eval_ListComp];refine Zh11 hc S hi ho hg ht he hs hsc hN0 I h (use:=none) (λ_ _ z=>z) λC oC D m H' ys s' J q hn nC hCD hCL hCs hCc hCp=>?_;refine⟨m,hn,λh' hs'=>⟨.ref D,upd H' D (.lst ys),?_,rfl,q⟩⟩;refine J.unpinned.turned (t':=s'.toks) (it:=C) (λb ob hb e=>hs'.extBut b ob hb e) (by rwa[Zz9 hCD]) hCL (.inr hCs) hCc hCp
theorem Zz29{x:Str}{px:Pos}{spos:Pos}(hc:X.calm=true)(hN:X.N.Nodup)(hx:X.N[i]?=some x)(hl:X.env.kindOf x=some .local)(S:CompScope sc0 N0 N' o fr scope)(hi:PI X tg iter wi)(ho:OwnG o g)
  (hg:∀(C:Addr) (s:Shared) (H:Hp) (fp:List Addr),PG (cxC X N' scope C s H fp) tg g)
  (ht:∀(C:Addr) (s:Shared) (H:Hp) (fp:List Addr),PTs (cxC X N' scope C s H fp) ifs tt)
  (he:∀(C:Addr) (s:Shared) (H:Hp) (fp:List Addr),PE (cxC X N' scope C s H fp) elt te)
  (hs:∀ x,foldedSetIterable iter X.env x=pure x:=by intro _;rfl) (hsc:X.env.scope=sc0:=by rfl) (hN0:X.N=N0:=by rfl)
  (hsw:swapsWith (.ListComp elt [⟨tg,iter,ifs,0⟩] scope pos) (some (.Name x px)) spos.line X.env=pure true:=by rfl) :
  PS X (.Assign [.Name x px] (.ListComp elt [⟨tg,iter,ifs,0⟩] scope pos) spos) (tAsg (tLc wi g tt te o fr) (Zs8 i)):=by
 intro pins s σ H D I h;rw[exec_Assign_Name_used _ _ _ _ hsw];refine Yy0 (wpAny_standAt (Yy0 ?_));show wpAny _ X.A (do let _ <- comprehension (.ListComp elt [⟨tg,iter,ifs,0⟩] scope pos) scope X.env (firstIterPos [⟨tg,iter,ifs,0⟩] pos) (newList []) false (eval iter X.env) (some (assign (.Name x px) X.env))) _ _ s
 refine Yy0 (Y0x (Zh11 (Q:=λ_ s'=>SP X pins D .next s') hc S hi ho hg ht he hs hsc hN0 I h (use:=some (assign (.Name x px) X.env)) (λ_ _ z=>z) λC oC Dd m H' ys s' J q hn nC hCD hCL hCs hCc hCp=>?_) (λ_ s' hq=>Yf (Yf hq)) λ_ _ e=>e);show wpAny _ X.A (assign (.Name x px) X.env (.ref Dd)) _ _ _
 refine wpAny_assign_Name (Zq2 J hN hx (.inl hl) (v:=.ref Dd) rfl (λs2 I2=>?_) (.inr hl));have g1:=(I2.pin (C,oC) (by simp)).1
 have g1:s2.heap.get? C=some oC:=g1;have n2:s2.heap.Ns C m:=by
  obtain⟨oc,es,ep,e,r⟩:=hn;have e0:=(J.pin (C,oC) (by simp)).1
  have e0:s'.heap.get? C=some oC:=e0;rw[e]at e0;cases e0;exact⟨_,es,ep,g1,r⟩
 refine⟨m,n2,λh' hs'=>⟨_,upd H' Dd (.lst ys),?_,q⟩⟩;exact I2.unpinned.turned (t':=s2.toks) (it:=C) (λb ob hb e=>hs'.extBut b ob hb e) (by rwa[Zz9 hCD]) hCL (.inr hCs) hCc hCp
end
section
variable{X:Cx}
theorem Zb5{x y:V}{us:Ag}(r:Vals [x,y] us):∃ u v,us=[u,v]/\RelV x u/\RelV y v:=by
 cases r with
 | cons a r =>
  cases r with
  | cons b r=>cases r;exact⟨_,_,rfl,a,b⟩
theorem ZA:∀ {ns:Ac} {us:Ag},Vals (ns.map V.int) us->IntsAre us ns
 | [],_,.nil=>.nil
 | n :: ns,_,.cons r t=>by obtain⟨tk,rfl⟩:=r;exact .cons n tk (ZA t)
theorem ZM2:Zg2 X (.type "range") (λxs H Q=>∃ j:Int,xs=[.int j]/\∀ p,H p=none->Q (.ref p) (upd H p (.rng 0 j))):=by intro pins s σ H xs us Q I r h;obtain⟨j,rfl,q⟩:=h;obtain⟨u,rfl,t,rfl⟩:=Zk3 r;refine call_range_1 ?_;exact⟨.ref s.heap.objs.size,_,I.laid (o:=.rng 0 j) (λb u e=>Yy4 _ e) (Yy6 _) ⟨_,_,_,Yj _ rfl⟩,rfl,q _ (I.hok.fresh (Yy6 _))⟩
def rngI(lo hi:Int):Ac:=(List.range (hi - lo).toNat).map λ(i:Nat)=>lo+(i:Int)
theorem Zl2(lo hi:Int):(rngI lo hi).length=(hi - lo).toNat:=by unfold rngI;rw[Yc,YK]
theorem Zd5{lo:Int}:∀ {us:Ag},us.length=n->(∀(j:Nat) (v:Value),us[j]?=some v->∃ t,v=Value.int (lo+(j:Int)) t)->Vals (((List.range n).map λ(i:Nat)=>lo+(i:Int)).map V.int) us:=by
 induction n generalizing lo with
 | zero =>
  intro us h _;rw[YV.mp h];exact .nil
 | succ n ih =>
  intro us h hv;cases us with
  | nil=>cases h
  | cons u us =>
   rw[List.range_succ_eq_map,YU,YU];refine .cons ?_ ?_
   .obtain⟨t,e⟩:=hv 0 u rfl;exact⟨t,e⟩
   .have q:=ih (lo:=lo+1) (us:=us) (Yy19 h) λj v e=>by obtain⟨t,e'⟩:=hv (j+1) v (by simpa using e);refine⟨t,?_⟩;rw[e'];congr 1;lia
    have e:(List.range n).map (λ(i:Nat)=>lo+1+(i:Int))=((List.range n).map Nat.succ).map (λ(i:Nat)=>lo+(i:Int)):=by
     rw[Y2m];refine YM λi _=>?_;show lo+1+(i:Int)=lo+((i+1:Nat):Int)
     lia
    rwa[e]at q
theorem Zh3 (hc:X.calm=true):Zg2 X (.type "list") (λxs H Q=>∃ p lo hi,xs=[.ref p]/\H p=some (.rng lo hi)/\(-(2 ^ 62)<=lo/\lo<2 ^ 62/\-(2 ^ 62)<=hi/\hi<2 ^ 62)/\(hi - lo).toNat<=16777216 /\
  ∀ l,H l=none->Q (.ref l) (upd H l (.lst ((rngI lo hi).map V.int)))):=by
 intro pins s σ H xs us Q I r h;obtain⟨p,lo,hi,rfl,hp,⟨b1,b2,b3,b4⟩,hz,q⟩:=h;obtain⟨u,rfl,ru⟩:=Zk3 r;obtain rfl:u=Value.ref p:=ru;obtain⟨t,u,v,e⟩:=(show ObjOk X.prog X.w H s.heap p (.rng lo hi) from I.hok p _ hp);have hn:Builtin.Range.rangeSize lo hi 1=(((hi - lo).toNat:Nat):Int):=by rw[rangeSize_one];split <;> grind
 refine call_list_range (I.ok.hd hc) (t:=t) (u:=u) (v:=v) e (small_one b1 b2 b3 b4) hn hz λh' tk acc c' hk hS ha=>?_;have hl:acc.toList.length=(hi - lo).toNat:=by rw[YA];exact ha.1
 have rv:Vals ((rngI lo hi).map V.int) acc.toList:=Zd5 (lo:=lo) hl λj w ew=>by obtain⟨t,e⟩:=ha.2 j w (by simpa using ew);exact⟨t,by rw[e,Y1r]⟩
 refine⟨.ref s.heap.objs.size,_,I.laid (o:=.lst ((rngI lo hi).map V.int)) hk (Yy6 _) ⟨?_,acc.toList,c',rv,?_⟩,rfl,q _ (I.hok.fresh (Yy6 _))⟩
 .rw[Yc,Zl2]
  have:sizeLine=16777216:=Y0W
  lia
 .rw[hS]
theorem Zg3 (hc:X.calm=true):Zg2 X (.builtin "sum") (λxs H Q=>∃(p:Addr) (ns:Ac),xs=[.ref p]/\SqL X.K H p (ns.map V.int)/\Q (.int ns.sum) H):=by
 intro pins s σ H xs us Q I r h;obtain⟨p,ns,rfl,hq,q⟩:=h;obtain⟨u,rfl,ru⟩:=Zk3 r;obtain rfl:u=Value.ref p:=ru;obtain⟨its,rv,pl,hz⟩:=I.list hq;have hi:=ZA rv
 have hall:=hi.allInts;obtain⟨xs,ex⟩:=hall.items;have hl:=pl.isList
 rw[ex]at hl;refine sum_intListG (I.ok.hd hc) hl λh' tk t' hk=>?_;have e1:preSum (numAt xs) xs.size=ns.sum:=by have e2:=hi.numsOf;rw[show its=its.toArray.toList from rfl,ex,nums_intItems]at e2;rw[preSum_eq,Yy08 (by simp),<- e2]
 exact⟨.int ns.sum,H,I.kept hk,⟨t',by rw[e1]⟩,q⟩
def seen(ns:Ac):Ac:=firstMet (λi=>ns.getD i 0) ns.length
def Ite(K:Ad)(a:Addr):It :=
 ⟨λi H=>∃ xs x,SqL K H a xs/\xs[i]?=some x,λi H v H'=>∃ T x,H T=none/\v=.ref T/\H'=upd H T (.tup [.int i,x])/\∀ xs,SqL K H a xs->xs[i]?=some x,λi H=>∃ xs,SqL K H a xs/\xs.length<=i⟩
def Zd13(K:Ad)(ta:TA):TI:=λσ H R=>ta σ H λvs H1=>∃ a,vs=[.ref a]/\(∃ xs,SqL K H1 a xs)/\R (Ite K a) H1
theorem Zz27{P:Program}{w:World}{K:Ad}{elts:List Expr}{x1:Nat}{pos:Pos}(a e it:Addr)(hne:e≠it):Turn P w K (.Tuple elts x1 pos) (Ite K a) [e,it] e (λi h=>(∃ old,IsEnum h e it i old)/\h.IsListIter it a i) where
 mem:=by simp
 obj:=λi h st b hb=>by
  obtain⟨⟨old,he⟩,o,eo,c,d⟩:=st;rcases Ye.mp hb with z | hb
  .subst z;exact⟨_,he,λv z=>by have z':Data.fields _=Data.cell v:=z;cases z'⟩
  .have z:b=it:=by simpa using hb
   subst z;exact⟨o,eo,λv z=>by rw[d]at z;cases z⟩
 keep:=λi h h' st k=>by obtain⟨⟨old,he⟩,hit⟩:=st;exact⟨⟨old,k e (by simp) _ he⟩,hit.at λo x=>k it (by simp) o x⟩
 item:=by
  intro X hP hw hK hc i pins s σ H E I hf st hg;subst hP hw hK;obtain⟨xs,x,hq,hx⟩:=hg;obtain⟨⟨old,he⟩,hit⟩:=st;obtain⟨its,rv,p,hz⟩:=I.list hq;obtain⟨u,hu,ru⟩:=rv.get hx;obtain⟨f0,f1,f2,f3,f4,f5⟩:=hf e (by simp);obtain⟨g0,g1,g2,g3,g4,g5⟩:=hf it (by simp);have hT0:H s.heap.objs.size=none:=I.hok.fresh (Yy6 _)
  refine wpAny_pyNext_enum_item he hit p.isList (x:=u) (by simpa using hu) hne λh' ho hit' hT hsz hk=>?_;have ltT:∀ b ob,s.heap.get? b=some ob->b≠s.heap.objs.size:=λb ob z=>Yo (Yh z)
  have ltH:∀ b ob,H b=some ob->b≠s.heap.objs.size:=λb ob z=>Yo (I.hok.lt z);have nof:∀ b ob,H b=some ob->b≠e/\b≠it:=λb ob z=>⟨λq=>(by rw[q,f0]at z;cases z),λq=>(by rw[q,g0]at z;cases z)⟩
  have I1:Inv X pins σ (upd H s.heap.objs.size (.tup [.int i,x])) { s with heap:=h',toks:=s.toks+1 }:=by
   refine I.step (g':=s.gens) (d':=s.drawn) (ch:=[e,it]) (λb hb=>?_) (λb o _ _ hcx z _=>hk b o (λq=>hcx (by simp[q])) (λq=>hcx (by simp[q])) z) (λb o _ _ hcx z _=>⟨o.slots,hk b o (λq=>hcx (by simp[q])) (λq=>hcx (by simp[q])) z⟩)
    (λb o _ z n=>by rwa[Zz9 (ltT b o z)]) (λb o hcx z=>⟨o,hk b o (λq=>hcx (by simp[q])) (λq=>hcx (by simp[q])) z⟩) (λb ys z=>by rwa[Zz9 (ltH b _ z)]) (λb o v z=>by rwa[Zz9 (ltH b _ z)])
    (λb ps z=>⟨#[],by rw[Zz9 (ltH b _ z),z];simp⟩) (λm hm=>?_) (λb v z=>?_) I.bare
   .rcases Ye.mp hb with q | hb
    .rw[q];exact⟨f3,f1,f4,f5⟩
    .have q:b=it:=by simpa using hb
     rw[q];exact⟨g3,g1,g4,g5⟩
   .obtain⟨o,es,ep,ho',r⟩:=hm;exact⟨o,es,ep,hk _ o (YR f1) (YR g1) ho',r⟩
   .by_cases hb:b=s.heap.objs.size
    .subst hb;rw[Zz1]at z;cases z;exact⟨by show 2<=sizeLine;decide,[.int i s.toks,u],.cons ⟨_,rfl⟩ (.cons ru .nil),⟨_,hT,rfl,_,rfl⟩⟩
    .rw[Zz9 hb]at z;refine(I.hok b v z).stay (λc w' hc' q=>?_) (λc q=>by rwa[Zz9 (ltH c _ q)]) λc ys q=>by rwa[Zz9 (ltH c _ q)]
     rcases hc' with rfl | hc'
     .exact hk c w' (nof c _ z).1 (nof c _ z).2 q
     .exact hk c w' (nof c _ hc').1 (nof c _ hc').2 q
  refine⟨_,rfl,wpAny_letOwnedTupleGo_enum ho λh2 he2 hs2=>?_⟩;have fT:e≠s.heap.objs.size:=ltT e _ he
  have I2:Inv X pins σ (upd H s.heap.objs.size (.tup [.int i,x])) { s with heap:=h2,toks:=s.toks+1 }:=Inv.turned (s:={ s with heap:=h',toks:=s.toks+1 }) (h':=h2) (t':=s.toks+1) (it:=e) I1 (λb o hb z=>hs2.extBut b o hb z) (by rwa[Zz9 fT]) f1 f3 f4 f5;refine⟨.ref s.heap.objs.size,_,I2,rfl,⟨_,x,hT0,rfl,rfl,λys hy=>by rwa[I.list_inj hy hq]⟩,⟨⟨u,by simpa using he2⟩,hit'.at λo z=>hs2.extBut it o (YR hne) z⟩,λb hb=>?_⟩;rcases Ye.mp hb with q | hb
  .rw[q,Zz9 fT];exact f0
  .have q:b=it:=by simpa using hb
   obtain⟨o,eo,_⟩:=hit;rwa[q,Zz9 (ltT it o eo)]
 done:=by
  intro X hP hw hK hc i pins s σ H E I hf st hg;subst hP hw hK;obtain⟨xs,hq,hx⟩:=hg;obtain⟨⟨old,he⟩,hit⟩:=st;obtain⟨its,rv,p,hz⟩:=I.list hq;obtain⟨g0,g1,g2,g3,g4,g5⟩:=hf it (by simp);have hl:=rv.length
  exact wpAny_pyNext_enum_end (I.ok.hd hc) he hit p.isList (by simp;lia) λh' eb=>⟨rfl,I.turned (t':=s.toks) (it:=it) (λb o hb z=>eb b o hb z) g0 g1 g3 g4 g5⟩
 self:=λ_ _ _ _ _ st h=>let ⟨⟨_,he⟩,_⟩:=st;wpAny_pyIter_enum he h
theorem ZO10 {elts:List Expr} {x1:Nat} {tpos:Pos} {a:Expr} {ta:TA} {p pos:Pos} (hg:Gl X "enumerate") (hm:X.mg "enumerate"=none) (ha:PA X [a] ta) (hs:starEach [a] X.env=[(false,eval a X.env)]:=by rfl) :
  PI X (.Tuple elts x1 tpos) (.Call (.Name "enumerate" p) [a] [] pos) (Zd13 X.K ta):=by
 intro pins s σ H R I h;refine Call_ (Zz62 I hg hm Boot.«enumerate» (Y0c (thn (ha pos pins s σ H _ I h) λus s1 hz0=>?_) hs rfl));obtain⟨vs,H1,I1,r1,q1⟩:=hz0;obtain⟨b,e,⟨xs,hq⟩,q⟩:=q1;subst e;obtain⟨u,rfl,ru⟩:=Zk3 r1;obtain rfl:u=Value.ref b:=ru;obtain⟨its,rv,pl,hz⟩:=I1.list hq;refine call_enumerate_list pl.isList λh' he hit hsz hk=>?_;have I2:Inv X pins σ H1 { s1 with heap:=h' }:=I1.kept (t':=s1.toks) hk
 refine wpAny_pyIter_enum he ?_;have nn:∀ k,s1.heap.objs.size<=k->H1 k=none:=λk hk=>I1.hok.fresh hk
 refine⟨s1.heap.objs.size+1,[s1.heap.objs.size+1,s1.heap.objs.size],_,_,H1,rfl,I2,Zz27 b _ _ (Nat.succ_ne_self _),⟨⟨_,he⟩,hit⟩,λc hc=>?_,q⟩;have hle:s1.heap.objs.size<=c:=by
  rcases Ye.mp hc with q | hc
  .rw[q];exact Y0P _
  .have q:c=s1.heap.objs.size:=by simpa using hc
   rw[q];exact Yy6 _
 exact I1.fpOk hle (nn c hle)
theorem Zk11{us:Ag}(r:Vals [kV k,y] us):∃ u v,us=[u,v]/\RelV (kV k) u/\RelV y v:=Zb5 r
def ZF10:V->List V->Hp->VK->Prop:=λx vs H Q=>∃ d kvs k y,x=.ref d/\vs=[kV k,y]/\H d=some (.dK kvs)/\kvs.length<sizeLine/\(∀ v,valV kvs k=some v->Q v H)/\(valV kvs k=none->Q y (upd H d (.dK (kvs++[(k,y)]))))
theorem Zz53:MtM X "dict.setdefault" ZF10:=by
 intro pins s σ H x vs v us Q I rx rv h;obtain⟨d,kvs,k,y,rfl,rfl,hH,hz,h1,h2⟩:=h;cases rx;obtain⟨uk,uy,rfl,rk,ry⟩:=Zk11 rv;obtain⟨z,hd,ws,rel,dd⟩:=ZY12 I.hok hH;refine call_meetsIn Y2R dd.typeIs PySem.F.entry_dict_setdefault (PySem.F.args_dict_setdefault_3 _ _ _) (kt_meets_setdefault (Zz61 X.prog X.w) d (ZE13 rk) hd uy)
  ⟨ws,dd,by rw[<- rel.length];exact z,λv' hv'=>?_,λhn h' dd' hs=>?_⟩
 .cases e:valV kvs k with
  | none =>
   have q:=rel.val k;rw[e,hv']at q;exact False.elim q
  | some w' =>
   have q:=rel.val k;rw[e,hv']at q;exact⟨w',H,I.tok _,q,h1 w' e⟩
 .have e:valV kvs k=none:=by
   cases e:valV kvs k with
   | none=>rfl
   | some w' =>
    have q:=rel.val k;rw[e,hn]at q;exact False.elim q
  have he:∃ q,h'.get? d=some q:=let ⟨q,_,_,hq,_⟩:=dd';⟨q,hq⟩
  refine⟨y,_,ZM11 (ob:=.dK (putK kvs k y)) I (by rw[hH];exact True.intro) hs he (ZZ12 ?_ hd (rel.put k ry) dd'),ry,?_⟩
  .have:=ZU4 kvs k y;lia
  .rw[Zz09 y e];exact h2 e
def Zz910(p d:Addr):HO:=.ext λh=>h.IsValuesView p d
def ZE10:V->List V->Hp->VK->Prop:=λx vs H Q=>∃ d kvs,x=.ref d/\vs=[]/\H d=some (.dK kvs)/\∀ p,H p=none->Q (.ref p) (upd H p (Zz910 p d))
theorem Zg7:MtM X "dict.values" ZE10:=by
 intro pins s σ H x vs v us Q I rx rv h;obtain⟨d,kvs,rfl,rfl,hH,q⟩:=h;cases rx;cases rv;obtain⟨z,hd,ws,rel,dd⟩:=ZY12 I.hok hH;refine call_meetsIn Y3g dd.typeIs PySem.F.entry_dict_values (PySem.F.args_dict_values_1 _) (meets_dict_values (Zz61 X.prog X.w) d hd) ⟨⟨ws,dd⟩,?_⟩;refine⟨.ref s.heap.objs.size,_,I.laid (o:=Zz910 s.heap.objs.size d) (λb u e=>Yy4 _ e) (Yy6 _) ?_,rfl,q _ (I.hok.fresh (Yy6 _))⟩;have e:=Yj s.heap (o:={ cls:=.type "dict_values",data:=.fields #[.ref d] }) rfl
 exact⟨⟨_,e,rfl,rfl⟩,⟨_,e⟩,λh1 h2 ⟨o,ho,r⟩ k=>⟨o,k o ho,r⟩⟩
theorem ZD7{h:Heap}(dd:h.DictOf (Zz61 P w) d ws):∃ ep,h.DictAt (Zz61 P w) d ws ep:=by obtain⟨o,es,ep,r⟩:=dd;exact⟨ep,o,es,r⟩
theorem Zc5{κ:Type}:∀ {kvs:List (κ × V)} {ws:List (κ × Value)},KV kvs ws->Vals (kvs.map (·.2)) (ws.map (·.2))
 | _,_,.nil=>.nil
 | _,_,.cons r t=>.cons r.2 (Zc5 t)
theorem ZN2 (hc:X.calm=true):Zg2 X (.type "list") (λxs H Q=>∃ p d kvs,xs=[.ref p]/\H p=some (Zz910 p d)/\H d=some (.dK kvs)/\∀ l,H l=none->Q (.ref l) (upd H l (.lst (kvs.map (·.2))))):=by
 intro pins s σ H xs us Q I r h;obtain⟨p,d,kvs,rfl,hp,hd,q⟩:=h;obtain⟨u,rfl,ru⟩:=Zk3 r;obtain rfl:u=Value.ref p:=ru;obtain⟨hv,_,_⟩:=(show ObjOk X.prog X.w H s.heap p (Zz910 p d) from I.hok p _ hp);obtain⟨z,hds,ws,rel,dd⟩:=ZY12 I.hok hd;obtain⟨ep,da⟩:=ZD7 dd;have hl:ws.length=kvs.length:=rel.length.symm
 refine PySem.W.kdl_call (PySem.W.kdl_values (knd:=Zz61 X.prog X.w) (kvs:=ws) (ep:=ep) (r:=p) (d:=d)) (I.ok.hd hc) ⟨hv,da⟩ (by lia) λh' tk acc c' hk hS ha=>?_;have ea:acc.toList=ws.map (·.2):=by
  refine Y0F λi=>?_;cases e:acc.toList[i]? with
  | none =>
   have:ws.length<=i:=by
    have:=Y3a.mp e
    rwa[YA,ha.1]at this
   rw[Y3a.mpr (by rwa[Yc])]
  | some v =>
   obtain⟨k,ek⟩:=ha.2 i v (by simpa using e);rw[Yp,ek];rfl
 refine⟨.ref s.heap.objs.size,_,I.laid (o:=.lst (kvs.map (·.2))) hk (Yy6 _) ⟨by rw[Yc];exact z,acc.toList,c',?_,by rw[hS]⟩,rfl,q _ (I.hok.fresh (Yy6 _))⟩;rw[ea];exact Zc5 rel
end
inductive EqD (K:Ad) (H:Hp):Nat->V->V->Bool->Prop
 | flat {n:Nat} {x y:V} (fx:ZP2 x=true) (fy:ZP2 y=true):EqD K H n x y (eqV x y)
 | lsts {n:Nat} {a b:Addr} {xs ys:List V} {e:Nat->Bool} (ha:SqL K H a xs) (hb:SqL K H b ys) (hl:xs.length=ys.length) (h:∀ i x y,xs[i]?=some x->ys[i]?=some y->EqD K H n x y (e i)):EqD K H (n+1) (.ref a) (.ref b) ((List.range xs.length).all e)
 | lens {n:Nat} {a b:Addr} {xs ys:List V} (ha:SqL K H a xs) (hb:SqL K H b ys) (hl:xs.length≠ys.length):EqD K H (n+1) (.ref a) (.ref b) false
 | tups {n:Nat} {a b:Addr} {xs ys:List V} {e:Nat->Bool} (ha:SqT K H a xs) (hb:SqT K H b ys) (h:∀ i x y,xs[i]?=some x->ys[i]?=some y->EqD K H n x y (e i)) :
   EqD K H (n+1) (.ref a) (.ref b) ((List.range (min xs.length ys.length)).all e && xs.length == ys.length)
theorem Zu6(h:ZP2 x=true):eqV x x=true:=by cases x <;> first | rfl | (simp[eqV];done) | exact absurd (show false=true from h) Yq
section
variable{X:Cx}{pins:List (Addr × Obj)}{σ:St}{H:Hp}{s:Shared}
theorem Vals.at{j:Nat}(r:Vals xs us)(h:j<us.length):∃ x,xs[j]?=some x/\RelV x us[j]:=by
 have hl:=r.length;have hx:xs[j]?=some (xs[j]'(by lia)):=Yy2 (by omega)
 obtain⟨u,e,ru⟩:=r.get hx;rw[Yy2 h]at e;cases e;exact⟨_,hx,ru⟩
theorem EqD.self(q:EqD X.K H n x y b)(I:Inv X pins σ H s):x=y->b=true:=by
 induction q with
 | flat fx fy=>intro e;subst e;exact Zu6 fx
 | @lsts n a b xs ys e ha hb hl h ih =>
  intro z;cases z;have e1:xs=ys:=I.list_inj ha hb
  subst e1;rw[Y0q];intro i hi;have hx:xs[i]?=some (xs[i]'(YG.mp hi)):=Yy2 _
  exact ih i _ _ hx hx rfl
 | @lens n a b xs ys ha hb hl =>
  intro z;cases z;exact absurd (YZ List.length (I.list_inj ha hb)) hl
 | @tups n a b xs ys e ha hb h ih =>
  intro z;cases z;have e1:xs=ys:=I.tuple_inj ha hb
  subst e1;rw[Nat.min_self,Y0r,Y0q];refine⟨λi hi=>?_,by simp⟩;have hx:xs[i]?=some (xs[i]'(YG.mp hi)):=Yy2 _
  exact ih i _ _ hx hx rfl
theorem EqD.at(q:EqD X.K H n x y b)(I:Inv X pins σ H s):∀ {A:Around} {u v:Value},A.units+n<cLine->RelV x u->RelV y v->SeqAt.EqAt A s u v b:=by
 induction q with
 | flat fx fy=>intro A u v _ ru rv;exact ZD11 ru rv fx fy
 | @lsts n a b xs ys e ha hb hl h ih =>
  intro A u v hu ru rv;obtain rfl:u=Value.ref a:=ru;obtain rfl:v=Value.ref b:=rv;by_cases hab:a=b
  .have z:=EqD.self (EqD.lsts ha hb hl h) I (YZ V.ref hab);rw[z,hab];exact Y2C _
  obtain⟨us,rx,px,_⟩:=I.list ha;obtain⟨vs,ry,py,_⟩:=I.list hb;have l1:=rx.length
  have l2:=ry.length;have z:=SeqAt.RcAt.lists (A:=A) (s:=s) (e:=e) px.isList py.isList (by rw[Yy9,Yy9];lia) (by lia) λj h1 h2=>by obtain⟨x,ex,rx'⟩:=rx.at (j:=j) (by simpa using h1);obtain⟨y,ey,ry'⟩:=ry.at (j:=j) (by simpa using h2);exact ih j x y ex ey (A:=A.in1) (by show A.units+1+n<cLine;lia) (by simpa using rx') (by simpa using ry')
  rw[Yy9,<- l1]at z;exact Y2a hab z
 | @lens n a b xs ys ha hb hl =>
  intro A u v hu ru rv;obtain rfl:u=Value.ref a:=ru;obtain rfl:v=Value.ref b:=rv;obtain⟨us,rx,px,_⟩:=I.list ha;obtain⟨vs,ry,py,_⟩:=I.list hb;have l1:=rx.length
  have l2:=ry.length;have hab:a≠b:=λz=>by subst z;exact hl (YZ List.length (I.list_inj ha hb))
  exact Y2a hab (SeqAt.RcAt.lists_lengths px.isList py.isList (by rw[Yy9,Yy9];simp;lia) (by omega))
 | @tups n a b xs ys e ha hb h ih =>
  intro A u v hu ru rv;obtain rfl:u=Value.ref a:=ru;obtain rfl:v=Value.ref b:=rv;by_cases hab:a=b
  .have z:=EqD.self (EqD.tups ha hb h) I (YZ V.ref hab);rw[z,hab];exact Y2C _
  obtain⟨us,rx,px,_⟩:=I.tuple ha;obtain⟨vs,ry,py,_⟩:=I.tuple hb;have l1:=rx.length
  have l2:=ry.length;have z:=SeqAt.RcAt.tuples (A:=A) (s:=s) (e:=e) (show s.heap.IsTuple a us.toArray from px) (show s.heap.IsTuple b vs.toArray from py) (by omega) λj h1 h2=>by obtain⟨x,ex,rx'⟩:=rx.at (j:=j) (by simpa using h1);obtain⟨y,ey,ry'⟩:=ry.at (j:=j) (by simpa using h2);exact ih j x y ex ey (A:=A.in1) (by show A.units+1+n<cLine;omega) (by simpa using rx') (by simpa using ry')
  rw[Yy9,Yy9,<- l1,<- l2]at z;exact Y2a hab z
end
section
variable{X:Cx}
def rEqD(K:Ad)(neg:Bool):R2:=λx y H Q=>∃ n b p q,x=.ref p/\y=.ref q/\n<=6/\EqD K H n x y b/\Q (.bl (if neg then !b else b)) H
theorem ZK12(hu:X.A.units+8<cLine):OpR X (compareOp .Eq) (rEqD X.K false):=by
 intro pins s σ H x y u v Q I ru rv h;obtain⟨n,b,p,q,rfl,rfl,hn,d,hq⟩:=h;obtain rfl:u=Value.ref p:=ru;obtain rfl:v=Value.ref q:=rv;have fin:EP X pins σ Q (.bool b) s:=⟨.bl b,H,I,rfl,hq⟩
 cases d with
 | flat fx fy=>exact absurd (show false=true from fx) Yq
 | @lsts n _ _ xs ys e ha hb hl h =>
  obtain⟨us,rx,px,_⟩:=I.list ha;obtain⟨vs,ry,py,_⟩:=I.list hb;have l1:=rx.length
  have l2:=ry.length;refine SeqAt.eq_listAt (e:=e) px.isList py.isList (by rw[Yy9,Yy9];lia) (by lia) (λj h1 h2=>?_) (by rwa[Yy9,<- l1]);obtain⟨x,ex,rx'⟩:=rx.at (j:=j) (by simpa using h1);obtain⟨y,ey,ry'⟩:=ry.at (j:=j) (by simpa using h2);exact(h j x y ex ey).at I (A:=X.A.in1) (by show X.A.units+1+n<cLine;lia) (by simpa using rx') (by simpa using ry')
 | @lens n _ _ xs ys ha hb hl =>
  obtain⟨us,rx,px,_⟩:=I.list ha;obtain⟨vs,ry,py,_⟩:=I.list hb;have l1:=rx.length
  have l2:=ry.length;exact SeqAt.eq_list_lengthsAt px.isList py.isList (by rw[Yy9,Yy9];simp;lia) (by omega) fin
 | @tups n _ _ xs ys e ha hb h =>
  obtain⟨us,rx,px,_⟩:=I.tuple ha;obtain⟨vs,ry,py,_⟩:=I.tuple hb;have l1:=rx.length
  have l2:=ry.length;refine SeqAt.eq_tupleAt (e:=e) (show s.heap.IsTuple p us.toArray from px) (show s.heap.IsTuple q vs.toArray from py) (by omega) (λj h1 h2=>?_) (by rwa[Yy9,Yy9,<- l1,<- l2]);obtain⟨x,ex,rx'⟩:=rx.at (j:=j) (by simpa using h1);obtain⟨y,ey,ry'⟩:=ry.at (j:=j) (by simpa using h2);exact(h j x y ex ey).at I (A:=X.A.in1) (by show X.A.units+1+n<cLine;omega) (by simpa using rx') (by simpa using ry')
theorem ZI12(hu:X.A.units+8<cLine):OpR X (compareOp .NotEq) (rEqD X.K true):=by
 intro pins s σ H x y u v Q I ru rv h;obtain⟨n,b,p,q,rfl,rfl,hn,d,hq⟩:=h;obtain rfl:u=Value.ref p:=ru;obtain rfl:v=Value.ref q:=rv;have fin:EP X pins σ Q (.bool (!b)) s:=⟨.bl (!b),H,I,rfl,hq⟩
 cases d with
 | flat fx fy=>exact absurd (show false=true from fx) Yq
 | @lsts n _ _ xs ys e ha hb hl h =>
  obtain⟨us,rx,px,_⟩:=I.list ha;obtain⟨vs,ry,py,_⟩:=I.list hb;have l1:=rx.length
  have l2:=ry.length;refine SeqAt.RcNeAt.lists (e:=e) px.isList py.isList (by rw[Yy9,Yy9];omega) (by omega) (λj h1 h2=>?_) _ _ _ _ (by rwa[Yy9,<- l1]);obtain⟨x,ex,rx'⟩:=rx.at (j:=j) (by simpa using h1);obtain⟨y,ey,ry'⟩:=ry.at (j:=j) (by simpa using h2);exact(h j x y ex ey).at I (A:=X.A.in1) (by show X.A.units+1+n<cLine;omega) (by simpa using rx') (by simpa using ry')
 | @lens n _ _ xs ys ha hb hl =>
  obtain⟨us,rx,px,_⟩:=I.list ha;obtain⟨vs,ry,py,_⟩:=I.list hb;have l1:=rx.length
  have l2:=ry.length;exact SeqAt.RcNeAt.lists_lengths px.isList py.isList (by rw[Yy9,Yy9];simp;omega) (by omega) _ _ _ _ fin
 | @tups n _ _ xs ys e ha hb h =>
  obtain⟨us,rx,px,_⟩:=I.tuple ha;obtain⟨vs,ry,py,_⟩:=I.tuple hb;have l1:=rx.length
  have l2:=ry.length;refine SeqAt.RcNeAt.tuples (e:=e) (show s.heap.IsTuple p us.toArray from px) (show s.heap.IsTuple q vs.toArray from py) (by omega) (λj h1 h2=>?_) _ _ _ _ (by rwa[Yy9,Yy9,<- l1,<- l2]);obtain⟨x,ex,rx'⟩:=rx.at (j:=j) (by simpa using h1);obtain⟨y,ey,ry'⟩:=ry.at (j:=j) (by simpa using h2);exact(h j x y ex ey).at I (A:=X.A.in1) (by show X.A.units+1+n<cLine;omega) (by simpa using rx') (by simpa using ry')
end
end L2
namespace My
open PySem L2
abbrev IL(ns:Ac):List V:=ns.map V.int
theorem Zz5(ns:Ac):(IL ns).length=ns.length:=Yc ..
theorem Zs7(a b:Ac):IL (a++b)=IL a++IL b:=YC ..
theorem Zd1(a:Ac)(r:Int):IL (a++[r])=IL a++[.int r]:=YC ..
theorem Zi8(a:Ac)(n:Nat):IL (a.take n)=(IL a).take n:=List.map_take ..
theorem Zr11(a:Ac)(n:Nat):IL (a.drop n)=(IL a).drop n:=List.map_drop ..
theorem ZW4{i:Nat}{z:Int}(h:ns[i]?=some z):(IL ns)[i]?=some (.int z):=by rw[Yp,h];rfl
theorem Zb1{i:Nat}{x:V}(h:(IL ns)[i]?=some x):∃ z,x=.int z/\ns[i]?=some z:=by
 rw[Yp]at h;cases e:ns[i]? with
 | none=>rw[e]at h;cases h
 | some z=>rw[e]at h;exact⟨z,(Yd h).symm,rfl⟩
theorem Zs{a:Addr}(hn:H a=none)(s:Same H H2):Same H (upd H2 a o):=λb u e=>by rw[Zz9 (Zb e hn)];exact s b u e
theorem ZW{p:Addr}(s:Same H H2)(hp:H2 p=none):Same H (upd H2 p o):=Zs (s.free hp) s
theorem same_at{p:Addr}(hp:H p=none):Same H (upd H p o):=ZW (Same.refl H) hp
theorem Zo5(e:Same H H')(h:SqT K H a xs):SqT K H' a xs:=by
 rcases h with (h | ⟨o,h⟩) | h
 .exact .inl (.inl (e _ _ h))
 .exact .inl (.inr ⟨o,e _ _ h⟩)
 .exact .inr h
theorem Zk2{n:Nat}(h:n<=1000000):n<=sizeLine:=YD h (by decide)
theorem Zr{n:Nat}(h:n<=1000000):n<sizeLine:=Y2v h (by decide)
theorem hu8(hr:Room k A):A.units+8<cLine:=Y2v (Nat.add_le_add_left (by decide:8<=64) _) hr.units
theorem ZN{α:Type}{xs:List α}{i:Int}{n:Nat}{x:α}(hi:i=(n:Int))(h:xs[n]?=some x):atI xs i=some x:=by
 subst hi;have hn:n<xs.length:=(Yy3.mp h).1
 unfold atI ixN;rw[if_pos (Int.natCast_nonneg n),if_pos (by omega)];simpa using h
theorem itd{c A B:Prop}[Decidable c](hc:c)(h:A):if decide c=true then A else B:=by rwa[if_pos (Yt hc)]
theorem itdn{c A B:Prop}[Decidable c](hc:¬ c)(h:B):if decide c=true then A else B:=by rwa[if_neg (by simp[hc])]
theorem itn{c A B:Prop}[Decidable c](hc:c)(h:B):if (!decide c)=true then A else B:=by rwa[if_neg (by simp[hc])]
theorem itnn{c A B:Prop}[Decidable c](hc:¬ c)(h:A):if (!decide c)=true then A else B:=by rwa[if_pos (by simp[hc])]
theorem itd2{c A B:Prop}[Decidable c](h1:c->A)(h2:¬ c->B):if decide c=true then A else B:=by
 by_cases h:c
 .exact itd h (h1 h)
 .exact itdn h (h2 h)
theorem itn2{c A B:Prop}[Decidable c](h1:c->B)(h2:¬ c->A):if (!decide c)=true then A else B:=by
 by_cases h:c
 .exact itn h (h1 h)
 .exact itnn h (h2 h)
theorem itb{b:Bool}{A B:Prop}(h1:b=true->A)(h2:b=false->B):if b=true then A else B:=by
 cases b with
 | true=>exact iteT (h1 rfl)
 | false=>exact iteF (h2 rfl)
theorem itnb{b:Bool}{A B:Prop}(h1:b=true->B)(h2:b=false->A):if (!b)=true then A else B:=by
 cases b with
 | true=>exact iteF (h1 rfl)
 | false=>exact iteT (h2 rfl)
def SqK(k:Bool)(K:Ad)(H:Hp)(a:Addr)(xs:List V):Prop:=match k with
 | false=>SqL K H a xs
 | true=>SqT K H a xs
theorem SqK.same(e:Same H H')(h:SqK k K H a xs):SqK k K H' a xs:=by
 cases k with
 | false=>exact e.seq h
 | true=>exact Zo5 e h
theorem SqK.or(h:SqK k K H a xs):SqL K H a xs\/SqT K H a xs:=by
 cases k with
 | false=>exact .inl h
 | true=>exact .inr h
def iSeq(K:Ad)(tl:TE):TI:=λσ H R=>tl σ H λx H1=>∃ a,x=.ref a/\(((∃ xs,SqL K H1 a xs)/\R (Itl K a) H1)\/((∃ xs,SqT K H1 a xs)/\R (Itt K a) H1))
theorem pi_seq(hl:PE X l tl):PI X tg l (iSeq X.K tl):=by
 intro pins s σ H R I h;refine thn (hl pins s σ H _ I h) λv s1 hz0=>?_;obtain⟨x,H1,I1,r1,q1⟩:=hz0;obtain⟨a,e,q⟩:=q1;subst e;cases r1;rcases q with ⟨⟨xs,hq⟩,q⟩ | ⟨⟨xs,hq⟩,q⟩
 .obtain⟨its,rv,p,hz⟩:=I1.list hq;refine Y2g p.isList ?_;refine⟨s1.heap.objs.size,[s1.heap.objs.size],_,_,H1,rfl,I1.kept (t':=s1.toks) λb o e=>Yy4 _ e,ZV3 a _,⟨_,Yj _ rfl,rfl,rfl⟩,λb hb=>?_,q⟩;have e:b=s1.heap.objs.size:=by simpa using hb
  subst e;exact I1.fpOk (Yy6 _) (I1.hok.fresh (Yy6 _))
 .obtain⟨its,rv,p,hz⟩:=I1.tuple hq;refine Y1D (show s1.heap.IsTuple a its.toArray from p) ?_;refine⟨s1.heap.objs.size,[s1.heap.objs.size],_,_,H1,rfl,I1.kept (t':=s1.toks) λb o e=>Yy4 _ e,ZT2 a _,⟨_,Yj _ rfl,rfl,rfl⟩,λb hb=>?_,q⟩;have e:b=s1.heap.objs.size:=by simpa using hb
  subst e;exact I1.fpOk (Yy6 _) (I1.hok.fresh (Yy6 _))
theorem Zp4{g:TG}{tb:TS}{D:Ends}(Pv:Nat->St->Hp->Prop)(h0:Pv 0 σ H)(hl:∀ i σ H,i<=xs.length->Pv i σ H->SqK k K H a xs)
  (hs:∀ i x σ H,xs[i]?=some x->Pv i σ H->g x σ H λσ2 H2=>tb { D with nx:=Pv (i+1),ct:=Pv (i+1),bk:=D.nx } σ2 H2) (hd:∀ σ H,Pv xs.length σ H->D.nx σ H) :
  (((∃ xs,SqL K H a xs)/\∃ W:Nat->Nat->St->Hp->Prop,(∃ m,W 0 m σ H)/\∀ i m σ H,W i m σ H ->
   ((Itl K a).stop i H/\D.nx σ H)\/((Itl K a).go i H/\∃ N:St->Hp->Prop,(∀ σ' H',N σ' H'->∃ m',m'<m/\W (i+1) m' σ' H')/\∀ x H',(Itl K a).yld i H x H'->g x σ H' λσ2 H2=>tb { D with nx:=N,ct:=N,bk:=D.nx } σ2 H2)) \/
  ((∃ xs,SqT K H a xs)/\∃ W:Nat->Nat->St->Hp->Prop,(∃ m,W 0 m σ H)/\∀ i m σ H,W i m σ H ->
   ((Itt K a).stop i H/\D.nx σ H)\/((Itt K a).go i H/\∃ N:St->Hp->Prop,(∀ σ' H',N σ' H'->∃ m',m'<m/\W (i+1) m' σ' H')/\∀ x H',(Itt K a).yld i H x H'->g x σ H' λσ2 H2=>tb { D with nx:=N,ct:=N,bk:=D.nx } σ2 H2))):=by
 cases k with
 | false=>exact .inl ⟨⟨xs,hl 0 σ H (Yl _) h0⟩,ZC1 (K:=K) (a:=a) (xs:=xs) Pv h0 hl hs hd⟩
 | true=>exact .inr ⟨⟨xs,hl 0 σ H (Yl _) h0⟩,Zp6 (K:=K) (a:=a) (xs:=xs) Pv h0 hl hs hd⟩
def PairV(H:Hp)(v:V)(p:Int × Int):Prop:=∃ t,v=.ref t/\H t=some (.tup [.int p.1,.int p.2])
def PairsV(H:Hp)(xs:List V)(ps:Aa):Prop:=xs.length=ps.length/\∀(i:Nat) (p:Int × Int),ps[i]?=some p->∃ v,xs[i]?=some v/\PairV H v p
theorem PairV.same(s:Same H H')(h:PairV H v p):PairV H' v p:=let ⟨t,e,q⟩:=h;⟨t,e,s _ _ q⟩
theorem PairsV.same(s:Same H H')(h:PairsV H xs ps):PairsV H' xs ps:=⟨h.1,λi p e=>let ⟨v,e1,q⟩:=h.2 i p e;⟨v,e1,q.same s⟩⟩
theorem PairsV.at(h:PairsV H xs ps){i:Nat}{v:V}(e:xs[i]?=some v):∃ p,ps[i]?=some p/\PairV H v p:=by
 have hi:i<xs.length:=(Yy3.mp e).1;have hp:i<ps.length:=by rwa[<- h.1]
 obtain⟨v',e1,q⟩:=h.2 i ps[i] (Yy2 hp);rw[e]at e1;cases e1;exact⟨_,Yy2 hp,q⟩
theorem PairsV.nil:PairsV H [] []:=⟨rfl,λi p e=>by simp at e⟩
theorem PairsV.snoc(h:PairsV H xs ps)(q:PairV H v p):PairsV H (xs++[v]) (ps++[p]):=by
 refine⟨by rw[Yy5,Yy5,h.1];rfl,λi p' e=>?_⟩;by_cases hi:i<ps.length
 .rw[Yu hi]at e;rw[Yu (by rwa[h.1])];exact h.2 i p' e
 .have hl:i=ps.length:=by
   have:=(Yy3.mp e).1
   rw[Yy5,YB]at this;lia
  subst hl;rw[Yv (Yy6 _),Y1a]at e;rw[Yv (by rw[h.1];exact Yy6 _),h.1,Y1a];have e':p=p':=Yd e
  subst e';exact⟨v,rfl,q⟩
theorem Yz13:¬ (("places":Str)="ties"):=by decide +kernel
def wf (n:Int) (tl:Addr):List (Str × V):=putF "ties" (.ref tl) (putF "places" (.int n) [])
theorem Zz91 (n:Int) (tl:Addr):(wf n tl).lookup ("places":Str)=some (.int n):=by unfold wf;rw[Zz71,if_neg Yz13,Zz71,if_pos rfl]
theorem Zr1 (n:Int) (tl:Addr):(wf n tl).lookup ("ties":Str)=some (.ref tl):=by unfold wf;rw[Zz71,if_pos rfl]
def WebAt(C:Addr)(H:Hp)(w:Addr)(n:Int)(ps:Aa):Prop:=∃ dx tl xs,H w=some (.ins C dx (wf n tl))/\H tl=some (.lst xs)/\PairsV H xs ps
theorem WebAt.same(s:Same H H')(h:WebAt C H w n ps):WebAt C H' w n ps:=let ⟨dx,tl,xs,a,b,c⟩:=h;⟨dx,tl,xs,s _ _ a,s _ _ b,c.same s⟩
def Zy(n:Int)(ps:Aa):Prop:=1<=n/\n<=14/\ps.length<=30/\∀ p∈ps,0<=p.1/\p.1<n/\0<=p.2/\p.2<n
def FX(K:Ad)(mg:Af)(x qual:Str)(st:Stmt):Prop:=∃(f:Addr) (fd:FuncData),mg x=some (.ref f)/\Fun K x qual st f fd
theorem fx_mk{K:Ad}{h:Heap}{mg:Af}{x:Str}{st:Stmt}{f:Addr}{oc:Value}{od an:Option Addr}{osl:Array (Option Value)}{kV doc pm cdv ct:Value}(X:K.In h)(G:h.Ns mainGlobals mg)
  (a:PySem.W.nsIn K mainGlobals x=some (some (.ref f))) (l:K.lookup f=some ⟨oc,od,.func (PySem.W.fnOf x x (Zd2 st) (Zi1 st) (Zz4 st) .none kV doc pm an cdv ct),osl⟩) (c:PySem.W.codeIn K cdv x=true) (k:PySem.W.keepIn K (.ref f)=true):FX K mg x x st :=
 ⟨f,_,Y0S X G a,ZH9 l c k⟩
def CXF (K:Ad) (mg:Af) (x qual:Str) (st:Stmt) (fs:List Str):Prop:=∃(C f:Addr) (fd:FuncData),mg x=some (.ref C)/\Fun K "__init__" qual st f fd/\Cls K C/\Mk K C f/\∀ a∈fs,NoAttr K C a
theorem cx_mk{mg:Af}{oc:Value}{od an:Option Addr}{osl:Array (Option Value)}{kV doc pm cdv ct:Value}(X:K.In h)(G:h.Ns mainGlobals mg)
  (aC:PySem.W.nsIn K mainGlobals x=some (some (.ref C))) (a:PySem.W.findIn K (.ref C) "__init__"=some (some (.ref f))) (i:PySem.W.isFn K (.ref f)=true)
  (l:K.lookup f=some ⟨oc,od,.func (PySem.W.fnOf "__init__" qual (Zd2 st) (Zi1 st) (Zz4 st) .none kV doc pm an cdv ct),osl⟩) (c:PySem.W.codeIn K cdv qual=true) (k:PySem.W.keepIn K (.ref f)=true)
  (pg:PySem.W.plainGet K C Str.empty=true) (hd:PySem.W.hasDictIn K C=true) (po:PySem.W.plainOver K C=true) (sa:PySem.W.findIn K (.ref C) "__setattr__"=some (some (.builtin "object.__setattr__"))) (mk:PySem.W.makesIn K C=true) (kc:PySem.W.keepIn K (.ref C)=true)
  (na:∀ a∈fs,PySem.W.findIn K (.ref C) a=some none):CXF K mg x qual st fs :=
 ⟨C,f,_,Y0S X G aC,ZH9 l c k,⟨pg,hd,po,sa⟩,⟨mk,a,i,kc⟩,na⟩
theorem const_mk{mg:Af}{z:Int}{v:Value}(X:K.In h)(G:h.Ns mainGlobals mg)(a:PySem.W.nsIn K mainGlobals x=some (some v))(e:∃ tk,v=.int z tk):∃ tk,mg x=some (.int z tk):=by obtain⟨tk,rfl⟩:=e;exact⟨tk,Y0S X G a⟩
theorem nmY{x:V}{A B:St->Hp->Prop}(h:A (σ.set i (some x)) H):Zs8 i x σ H λσ2 H2=>tYes σ2 H2 λb H3=>if b=true then A σ2 H3 else B σ2 H3 :=
 (show if true=true then A (σ.set i (some x)) H else B (σ.set i (some x)) H from iteT h)
theorem nm{x:V}{Q:St->Hp->Prop}(h:Q (σ.set i (some x)) H):Zs8 i x σ H Q:=h
section
variable{K:Ad}{a:Addr}{xs:List V}{g:TG}{tt:TT}{te:TE}{o:Nat}{fr:List Nat}{σ:St}{H:Hp}{Q:VK}
abbrev ZS3(Pv:Nat->List V->Hp->Prop)(g:TG)(tt:TT)(te:TE)(o:Nat)(fr:List Nat)(σ:St)(i:Nat)(x:V)(ys:List V)(H:Hp):Prop :=
 ∀ S:Nat->List V->Hp->Prop,(∀ ys H,Pv (i+1) ys H->S (i+1) ys H)->g x (σC o fr σ) H λσ2 H2=>tt σ2 H2 λb H3=>if b=true then te σ2 H3 λy H4=>S (i+1) (ys++[y]) H4 else S (i+1) ys H3
theorem Zz83(Pv:Nat->List V->Hp->Prop)(h0:Pv 0 [] H)(hz:xs.length<sizeLine)(hl:∀ i ys H,i<=xs.length->Pv i ys H->SqL K H a xs/\ys.length<=i)
  (hs:∀ i x ys H,xs[i]?=some x->Pv i ys H->ZS3 Pv g tt te o fr σ i x ys H) (hd:∀ ys H,Pv xs.length ys H->∀ p,H p=none->Q (.ref p) (upd H p (.lst ys))):LcR (Itl K a) g tt te o fr σ H Q:=by
 refine⟨λi m ys H=>m=xs.length - i/\i<=xs.length/\Pv i ys H,⟨xs.length,by simp,Yl _,h0⟩,?_⟩;rintro i m ys H ⟨rfl,hi,p⟩;obtain⟨q,hy⟩:=hl i ys H hi p;by_cases hlt:i<xs.length
 .refine .inr ⟨⟨xs,xs[i],q,by simp[hlt]⟩,by lia,λx H' ⟨e,y⟩=>?_⟩;subst e;have hx:=y xs q
  exact hs i x ys _ hx p (λj ys H=>∃ m',m'<xs.length - i/\m'=xs.length - j/\j<=xs.length/\Pv j ys H) λys H p'=>⟨xs.length - (i+1),by grind,rfl,hlt,p'⟩
 .have e:i=xs.length:=by lia
  subst e;exact .inl ⟨⟨xs,q,Yy6 _⟩,by lia,hd ys H p⟩
theorem Zt9(Pv:Nat->List V->Hp->Prop)(h0:Pv 0 [] H)(hz:xs.length<sizeLine)(hl:∀ i ys H,i<=xs.length->Pv i ys H->SqT K H a xs/\ys.length<=i)
  (hs:∀ i x ys H,xs[i]?=some x->Pv i ys H->ZS3 Pv g tt te o fr σ i x ys H) (hd:∀ ys H,Pv xs.length ys H->∀ p,H p=none->Q (.ref p) (upd H p (.lst ys))):LcR (Itt K a) g tt te o fr σ H Q:=by
 refine⟨λi m ys H=>m=xs.length - i/\i<=xs.length/\Pv i ys H,⟨xs.length,by simp,Yl _,h0⟩,?_⟩;rintro i m ys H ⟨rfl,hi,p⟩;obtain⟨q,hy⟩:=hl i ys H hi p;by_cases hlt:i<xs.length
 .refine .inr ⟨⟨xs,xs[i],q,by simp[hlt]⟩,by omega,λx H' ⟨e,y⟩=>?_⟩;subst e;have hx:=y xs q
  exact hs i x ys _ hx p (λj ys H=>∃ m',m'<xs.length - i/\m'=xs.length - j/\j<=xs.length/\Pv j ys H) λys H p'=>⟨xs.length - (i+1),by omega,rfl,hlt,p'⟩
 .have e:i=xs.length:=by omega
  subst e;exact .inl ⟨⟨xs,q,Yy6 _⟩,by omega,hd ys H p⟩
theorem Zg11(Pv:Nat->List V->Hp->Prop)(h0:Pv 0 [] H)(hz:xs.length<sizeLine)(hl:∀ i ys H,i<=xs.length->Pv i ys H->SqK k K H a xs/\ys.length<=i)
  (hs:∀ i x ys H,xs[i]?=some x->Pv i ys H->ZS3 Pv g tt te o fr σ i x ys H) (hd:∀ ys H,Pv xs.length ys H->∀ p,H p=none->Q (.ref p) (upd H p (.lst ys))) :
  ((∃ xs,SqL K H a xs)/\LcR (Itl K a) g tt te o fr σ H Q)\/((∃ xs,SqT K H a xs)/\LcR (Itt K a) g tt te o fr σ H Q):=by
 cases k with
 | false=>exact .inl ⟨⟨xs,(hl 0 [] H (Yl _) h0).1⟩,Zz83 Pv h0 hz hl hs hd⟩
 | true=>exact .inr ⟨⟨xs,(hl 0 [] H (Yl _) h0).1⟩,Zt9 Pv h0 hz hl hs hd⟩
theorem ZB2(Pv:Nat->List V->Hp->Prop)(h0:Pv 0 [] H)(hz:n<sizeLine)(hl:∀ i ys H,i<=n->Pv i ys H->ys.length<=i)
  (hs:∀ i ys H,i<n->Pv i ys H->ZS3 Pv g tt te o fr σ i (.int (lo+i)) ys H) (hd:∀ ys H,Pv n ys H->∀ p,H p=none->Q (.ref p) (upd H p (.lst ys))):LcR (Itr lo n) g tt te o fr σ H Q:=by
 refine⟨λi m ys H=>m=n - i/\i<=n/\Pv i ys H,⟨n,by simp,Yl _,h0⟩,?_⟩;rintro i m ys H ⟨rfl,hi,p⟩;have hy:=hl i ys H hi p
 by_cases hlt:i<n
 .refine .inr ⟨hlt,by lia,λx H' ⟨e,y⟩=>?_⟩;subst e;subst y;exact hs i ys _ hlt p (λj ys H=>∃ m',m'<n - i/\m'=n - j/\j<=n/\Pv j ys H) λys H p'=>⟨n - (i+1),by grind,rfl,hlt,p'⟩
 .have e:i=n:=by lia
  subst e;exact .inl ⟨Yy6 _,by lia,hd ys H p⟩
end
theorem nodup_get{α:Type}{l:List α}(h:l.Nodup){i j:Nat}{x:α}(a:l[i]?=some x)(b:l[j]?=some x):i=j:=by obtain⟨h1,e1⟩:=Yy3.mp a;obtain⟨h2,e2⟩:=Yy3.mp b;exact(List.getElem_inj h).mp (e1.trans e2.symm)
theorem getD_of{α:Type}{l:List α}{x d:α}(h:l[i]?=some x):l.getD i d=x:=by rw[Yy7,h];rfl
theorem Zz68{α:Type}{l:List α}{x:α}(h:l.Nodup)(hx:x∉l):(l++[x]).Nodup:=by rw[Y0d];refine⟨h,by simp,λa ha b hb=>?_⟩;rw[Yy1]at hb;subst hb;rintro rfl;exact hx ha
theorem ZG3{g:TG}{tb:TS}{D:Ends}(Pv:Nat->St->Hp->Prop)(h0:Pv 0 σ H)(hl:∀ i σ H,i<=xs.length->Pv i σ H->SqL K H a xs)
  (hs:∀(i:Nat) x σ H (p:Addr),H p=none->xs[i]?=some x->Pv i σ H->g (.ref p) σ (upd H p (.tup [.int i,x])) λσ2 H2=>tb { D with nx:=Pv (i+1),ct:=Pv (i+1),bk:=D.nx } σ2 H2) (hd:∀ σ H,Pv xs.length σ H->D.nx σ H) :
  ∃ W:Nat->Nat->St->Hp->Prop,(∃ m,W 0 m σ H)/\∀ i m σ H,W i m σ H ->
   ((Ite K a).stop i H/\D.nx σ H)\/((Ite K a).go i H/\∃ N:St->Hp->Prop,(∀ σ' H',N σ' H'->∃ m',m'<m/\W (i+1) m' σ' H')/\∀ x H',(Ite K a).yld i H x H'->g x σ H' λσ2 H2=>tb { D with nx:=N,ct:=N,bk:=D.nx } σ2 H2):=by
 refine⟨λi m σ H=>m=xs.length - i/\i<=xs.length/\Pv i σ H,⟨xs.length,by simp,Yl _,h0⟩,?_⟩;rintro i m σ H ⟨rfl,hi,p⟩;have q:=hl i σ H hi p
 by_cases hlt:i<xs.length
 .refine .inr ⟨⟨xs,xs[i],q,by simp[hlt]⟩,Pv (i+1),λσ' H' p'=>⟨xs.length - (i+1),by omega,rfl,hlt,p'⟩,λx H' ⟨T,y,hT,ex,eH,hy⟩=>?_⟩;subst ex eH;exact hs i y σ H T hT (hy xs q) p
 .have e:i=xs.length:=by lia
  subst e;exact .inl ⟨⟨xs,q,Yy6 _⟩,hd σ H p⟩
end My
namespace L2
open PySem PySem.Spec PyProof.Rows
section
variable{X:Cx}{a o e:Expr}{es:List Expr}{ta to:TE}{t:TA}{pos:Pos}
theorem Zj(K:Ad)(h:X.K=K:=by rfl):IxR X (rIxL K):=h ▸ Zl11
theorem ZD(K:Ad)(h:X.K=K:=by rfl):IxR X (rIxT K):=h ▸ ZT12
theorem Zg1(K:Ad)(h:X.K=K:=by rfl):SlR X (rSlL K):=h ▸ Zt10
theorem ZJ12(K:Ad)(h:X.K=K:=by rfl):OpR X (compareOp .In) (λx y H Q=>∃ p xs,y=.ref p/\(SqL K H p xs\/SqT K H p xs)/\ZP2 x=true/\xs.all ZP2=true/\Q (.bl (inV x xs)) H):=h ▸ Zd7
theorem Zz84(K:Ad)(h:X.K=K:=by rfl):OpR X (compareOp .NotIn) (λx y H Q=>∃ p xs,y=.ref p/\(SqL K H p xs\/SqT K H p xs)/\ZP2 x=true/\xs.all ZP2=true/\Q (.bl (!inV x xs)) H):=h ▸ Zx3
theorem ZY10(K:Ad)(hu:X.A.units+8<cLine)(h:X.K=K:=by rfl):OpR X (compareOp .Eq) (rEqD K false):=h ▸ ZK12 hu
theorem ZK5(K:Ad)(hu:X.A.units+8<cLine)(h:X.K=K:=by rfl):OpR X (compareOp .NotEq) (rEqD K true):=h ▸ ZI12 hu
theorem Zg9(K:Ad)(h:X.K=K:=by rfl):OpR X (binaryOp .Add) (Zz813 K):=h ▸ ZZ10
theorem ZO(K:Ad)(he:PE X e ta)(hb:attributeBase e f X.env (eval e X.env)=eval e X.env)(h:X.K=K:=by rfl):PE X (.Attribute e f pos) (tFld K ta f):=h ▸ ZG12 he hb
theorem Zh (K:Ad) (h:X.K=K:=by rfl):Zg2 X (.builtin "len") (λxs H Q=>∃ p ys,xs=[.ref p]/\(SqL K H p ys\/SqT K H p ys)/\Q (.int ys.length) H):=h ▸ ZP3
theorem ZI (K:Ad) (h:X.K=K:=by rfl):Zg2 X (.type "list") (λxs H Q=>∃ p ys,xs=[.ref p]/\(SqL K H p ys\/SqT K H p ys)/\∀ l,H l=none->Q (.ref l) (upd H l (.lst ys))):=h ▸ ZO3
theorem ZE1 (K:Ad) (h:X.K=K:=by rfl):Zg2 X (.type "tuple") (λxs H Q=>∃ p ys,xs=[.ref p]/\((SqL K H p ys/\∀ l,H l=none->Q (.ref l) (upd H l (.tup ys)))\/(SqT K H p ys/\Q (.ref p) H))):=h ▸ Zf3
theorem ZF4 (K:Ad) (hc:X.calm=true) (h:X.K=K:=by rfl):Zg2 X (.builtin "sum") (λxs H Q=>∃(p:Addr) (ns:Ac),xs=[.ref p]/\SqL K H p (ns.map V.int)/\Q (.int ns.sum) H):=h ▸ Zg3 hc
theorem ZY(K:Ad)(hl:PE X l tl)(h:X.K=K:=by rfl):PI X tg l (Zc13 K tl):=h ▸ ZN10 hl
theorem ZY1(K:Ad)(hl:PE X l tl)(h:X.K=K:=by rfl):PI X tg l (iTup K tl):=h ▸ ZB12 hl
theorem ZZ1(K:Ad)(hl:PE X l tl)(h:X.K=K:=by rfl):PI X tg l (My.iSeq K tl):=h ▸ My.pi_seq hl
theorem Zz02 (K:Ad) {elts:List Expr} {x1:Nat} {tpos:Pos} {a:Expr} {ta:TA} {p pos:Pos} (hg:Gl X "enumerate") (hm:X.mg "enumerate"=none) (ha:PA X [a] ta) (hs:starEach [a] X.env=[(false,eval a X.env)]:=by rfl) (h:X.K=K:=by rfl) :
  PI X (.Tuple elts x1 tpos) (.Call (.Name "enumerate" p) [a] [] pos) (Zd13 K ta):=h ▸ ZO10 hg hm ha hs
theorem Zz51(K:Ad){es:List Expr}{k:Nat}{t:TGs}{n:Nat}(hc:X.calm=true)(ht:PGs X es t)
  (hn:(assignEach es X.env).length=n:=by rfl) (hst:(assignEach es X.env).findIdx? (·.1)=none:=by rfl) (h:X.K=K:=by rfl):PG X (.Tuple es k pos) (gTup K n t):=h ▸ ZC12 hc ht hn hst
theorem Zq1 (K:Ad) {name:Str} {apos cpos:Pos} {T id:String} {r:V->List V->Hp->VK->Prop} (pa:PlainAttrs T) (slot:Slot T name id) (hty:typeOf (.builtin id)=pure (.type "method_descriptor")) (hm:MtR X id r) (ho:PE X o to) (ha:PA X (e :: es) t)
  (hbase:attributeBase o name X.env (eval o X.env)=eval o X.env:=by rfl)
  (hfew:((backTo cpos (starEach (e :: es) X.env)).all (λx=>!x.1) && (backToKw cpos (keywordEach [] X.env)).all (λx=>x.1.isSome)
   && decide ((e :: es).length+([]:List Keyword).length+(if ([]:List Keyword).isEmpty then 0 else 1)<30))=true:=by rfl)
  (hline:(apos.endLine == cpos.line)=true:=by rfl) (hs:starEach (e :: es) X.env=(false,eval e X.env) :: starEach es X.env:=by rfl) (hplain:(backTo cpos (starEach es X.env)).any (·.1)=false:=by rfl) (h:X.K=K:=by rfl) :
  PE X (.Call (.Attribute o name apos) (e :: es) [] cpos) (tBM K T r to t):=h ▸ ZA13 pa slot hty hm ho ha hbase hfew hline hs hplain
theorem ZR10 (K:Ad) {name:Str} {apos cpos:Pos} {T id:String} {r:V->List V->Hp->VK->Prop} (pa:PlainAttrs T) (slot:Slot T name id) (hty:typeOf (.builtin id)=pure (.type "method_descriptor")) (hm:MtR X id r) (ho:PE X o to)
  (hbase:attributeBase o name X.env (eval o X.env)=eval o X.env:=by rfl) (hline:(apos.endLine == cpos.line)=true:=by rfl) (h:X.K=K:=by rfl):PE X (.Call (.Attribute o name apos) [] [] cpos) (tBM0 K T r to):=h ▸ ZH12 pa slot hty hm ho hbase hline
end
end L2
namespace My
abbrev mk(m:Ac)(i:Nat):Int:=m.getD i 0
def pm(m:Ac)(a b:Nat):Ac :=
 if min (mk m a) (mk m b)<max (mk m a) (mk m b) then m.map (λk=>if k=max (mk m a) (mk m b) then min (mk m a) (mk m b) else k) else m
def lm(m:Ac)(a b:Nat):Ac :=
 if mk m a≠mk m b then m.map (λk=>if k=mk m b then mk m a else k) else m
def SameP(m l:Ac):Prop:=m.length=l.length/\∀ i j,i<m.length->j<m.length->(mk m i=mk m j↔mk l i=mk l j)
theorem ZB3(m:Ac)(f:Int->Int)(h:i<m.length):mk (m.map f) i=f (mk m i):=by simp[mk,Yy7,Yp,Yy2 h]
theorem Zt1(m:Ac)(a b:Nat):(pm m a b).length=m.length:=by unfold pm;split <;> simp
theorem ZN1(m:Ac)(a b:Nat):(lm m a b).length=m.length:=by unfold lm;split <;> simp
def Mrg(m:Ac)(a b i j:Nat):Prop:=mk m i=mk m j\/((mk m i=mk m a\/mk m i=mk m b)/\(mk m j=mk m a\/mk m j=mk m b))
theorem Zz69{x y p q:Int}:((if x=q then p else x)=(if y=q then p else y))↔(x=y\/((x=p\/x=q)/\(y=p\/y=q))):=by grind
theorem Zz08{x y p:Int}:x=y↔(x=y\/((x=p\/x=p)/\(y=p\/y=p))):=⟨.inl,λh=>h.elim id λh=>(h.1.elim id id).trans (h.2.elim id id).symm⟩
theorem Zw12(hi:i<m.length)(hj:j<m.length):mk (pm m a b) i=mk (pm m a b) j↔Mrg m a b i j:=by
 unfold pm Mrg;split
 .rename_i h;rw[ZB3 _ _ hi,ZB3 _ _ hj];by_cases hpq:mk m a<mk m b
  .rw[Yy36 (Y2Y hpq),Int.max_eq_right (Y2Y hpq)];exact Zz69
  .rw[Y2X (Int.not_lt.mp hpq),Int.max_eq_left (Int.not_lt.mp hpq),Or.comm (a:=mk m i=mk m a),Or.comm (a:=mk m j=mk m a)];exact Zz69
 .rename_i h;have hh:=Int.not_lt.mp h
  rw[show mk m a=mk m b from Int.le_antisymm (Yy22 (Int.le_max_left _ _) (Yy22 hh (Int.min_le_right _ _))) (Yy22 (Int.le_max_right _ _) (Yy22 hh (Int.min_le_left _ _)))];exact Zz08
theorem Zz36(hi:i<m.length)(hj:j<m.length):mk (lm m a b) i=mk (lm m a b) j↔Mrg m a b i j:=by
 unfold lm Mrg;split
 .rename_i h;rw[ZB3 _ _ hi,ZB3 _ _ hj];exact Zz69
 .rename_i h;rw[show mk m a=mk m b from Classical.not_not.mp h];exact Zz08
theorem SameP.step{m l:Ac}(s:SameP m l){a b:Nat}(ha:a<m.length)(hb:b<m.length):SameP (pm m a b) (lm l a b):=by obtain⟨hl,h⟩:=s;refine⟨by rw[Zt1,ZN1,hl],λi j hi hj=>?_⟩;rw[Zt1]at hi hj;rw[Zw12 hi hj,Zz36 (by omega) (by omega)];unfold Mrg;rw[h i j hi hj,h i a hi ha,h i b hi hb,h j a hj ha,h j b hj hb]
def pms(n:Nat)(es:List (Nat × Nat)):Ac:=es.foldl (λm e=>pm m e.1 e.2) ((List.range n).map λ(i:Nat)=>(i:Int))
def lms(n:Nat)(es:List (Nat × Nat)):Ac:=es.foldl (λm e=>lm m e.1 e.2) ((List.range n).map λ(i:Nat)=>(i:Int))
theorem Zo(n:Nat)(es:List (Nat × Nat)):(pms n es).length=n:=by
 have:∀(es:List (Nat × Nat)) (m:Ac),(es.foldl (λm e=>pm m e.1 e.2) m).length=m.length:=by
  intro es
  induction es with
  | nil=>intro m;rfl
  | cons e es ih=>intro m;rw[Y2i,ih,Zt1]
 unfold pms;rw[this];simp
theorem Zv(n:Nat)(es:List (Nat × Nat)):(lms n es).length=n:=by
 have:∀(es:List (Nat × Nat)) (m:Ac),(es.foldl (λm e=>lm m e.1 e.2) m).length=m.length:=by
  intro es
  induction es with
  | nil=>intro m;rfl
  | cons e es ih=>intro m;rw[Y2i,ih,ZN1]
 unfold lms;rw[this];simp
theorem ZG5(n:Nat)(es:List (Nat × Nat))(e:Nat × Nat):pms n (es++[e])=pm (pms n es) e.1 e.2:=by unfold pms;rw[Y1z];rfl
theorem ZZ(n:Nat)(es:List (Nat × Nat))(e:Nat × Nat):lms n (es++[e])=lm (lms n es) e.1 e.2:=by unfold lms;rw[Y1z];rfl
theorem Zy5:∀ {es:List (Nat × Nat)},(∀ e∈es,e.1<n/\e.2<n)->SameP (pms n es) (lms n es):=by
 intro es;have key:∀(es:List (Nat × Nat)) (m l:Ac),SameP m l->m.length=n->(∀ e∈es,e.1<n/\e.2<n)->SameP (es.foldl (λm e=>pm m e.1 e.2) m) (es.foldl (λm e=>lm m e.1 e.2) l):=by
  intro es
  induction es with
  | nil=>intro m l s _ _;exact s
  | cons e es ih =>
   intro m l s hm he;have h1:=he e Yk
   exact ih _ _ (s.step (by omega) (by omega)) (by rwa[Zt1]) λx hx=>he x (Yi _ hx)
 exact key es _ _ ⟨rfl,λi j _ _=>Iff.rfl⟩ (by simp)
def ZE3(g:List (Int × Ac))(place k:Int):List (Int × Ac) :=
 if k∈g.map (·.1) then g.map (λkv=>if kv.1=k then (kv.1,kv.2++[place]) else kv) else g++[(k,[place])]
def grpA(M:Ac):Nat->List (Int × Ac)
 | 0=>[]
 | i+1=>ZE3 (grpA M i) (i:Int) (mk M i)
def grp(M:Ac):List (Int × Ac):=grpA M M.length
theorem Zv1(g:List (Int × Ac))(p k:Int):(ZE3 g p k).map (·.1)=if k∈g.map (·.1) then g.map (·.1) else g.map (·.1)++[k]:=by
 unfold ZE3;split
 .rw[Y2m];refine YM λkv _=>?_;show(if kv.1=k then (kv.1,kv.2++[p]) else kv).1=kv.1
  split <;> rfl
 .simp
theorem ZX4(h:(g.map (·.1)).Nodup):((ZE3 g p k).map (·.1)).Nodup:=by
 rw[Zv1];split
 .exact h
 .rename_i hk;rw[Y0d];refine⟨h,by simp,λa ha b hb=>?_⟩;rw[Yy1]at hb;subst hb;rintro rfl;exact hk ha
theorem Zz92(M:Ac):∀ i,((grpA M i).map (·.1)).Nodup
 | 0=>by simp[grpA]
 | i+1=>ZX4 (Zz92 M i)
theorem grpA_mem(M:Ac):∀ i kv,kv∈grpA M i->∀ z:Int,z∈kv.2↔(0<=z/\z<(i:Int)/\mk M z.toNat=kv.1)
 | 0,kv,h,z=>by simp[grpA]at h
 | i+1,kv,h,z=>by
  unfold grpA ZE3 at h;split at h
  .rename_i hk;obtain⟨kv0,h0,e⟩:=Yx.mp h;have ih:=grpA_mem M i kv0 h0 z
   by_cases hc:kv0.1=mk M i
   .rw[if_pos hc]at e;subst e;rw[Ya,ih,Yy1];constructor
    .rintro(⟨a,b,c⟩ | rfl)
     .exact⟨a,by lia,c⟩
     .exact⟨by lia,by lia,by simpa using hc.symm⟩
    .rintro⟨a,b,c⟩;by_cases hz:z<(i:Int)
     .exact .inl ⟨a,hz,c⟩
     .exact .inr (by lia)
   .rw[if_neg hc]at e;subst e;rw[ih];constructor
    .rintro⟨a,b,c⟩;exact⟨a,by omega,c⟩
    .rintro⟨a,b,c⟩;refine⟨a,?_,c⟩;by_cases hz:z<(i:Int)
     .exact hz
     .have e:z.toNat=i:=by grind
      rw[e]at c;exact absurd c.symm hc
  .rename_i hk;rcases Ya.mp h with h0 | h0
   .have ih:=grpA_mem M i kv h0 z;rw[ih];constructor
    .rintro⟨a,b,c⟩;exact⟨a,by lia,c⟩
    .rintro⟨a,b,c⟩;refine⟨a,?_,c⟩;by_cases hz:z<(i:Int)
     .exact hz
     .have e:z.toNat=i:=by grind
      rw[e]at c;exact absurd (Yx.mpr ⟨kv,h0,c.symm⟩) hk
   .rw[Yy1]at h0;subst h0;simp only [Yy1];constructor
    .rintro rfl;exact⟨by lia,by lia,by simp⟩
    .rintro⟨a,b,c⟩;by_cases hz:z<(i:Int)
     .exfalso;have key:=grpA_key M i z.toNat (by lia)
      rw[c]at key;exact hk key
     .lia
where
 grpA_key (M:Ac):∀ i j,j<i->mk M j∈(grpA M i).map (·.1)
  | 0,j,h=>absurd h (Yy02 j)
  | i+1,j,h=>by
   show mk M j∈(ZE3 (grpA M i) (i:Int) (mk M i)).map (·.1);rw[Zv1];by_cases hj:j<i
   .have:=grpA_key M i j hj
    split
    .exact this
    .exact Yg _ this
   .have e:j=i:=by lia
    subst e;split
    .assumption
    .simp
theorem grpA_key(h:j<i):mk M j∈(grpA M i).map (·.1):=grpA_mem.grpA_key M i j h
theorem Zl1(M:Ac):∀ i k,k∈(grpA M i).map (·.1)->∃ j,j<i/\mk M j=k
 | 0,k,h=>by simp[grpA]at h
 | i+1,k,h=>by
  have h:k∈(ZE3 (grpA M i) (i:Int) (mk M i)).map (·.1):=h;rw[Zv1]at h;have old:k∈(grpA M i).map (·.1)->∃ j,j<i+1/\mk M j=k:=λq=>by obtain⟨j,hj,e⟩:=Zl1 M i k q;exact⟨j,by lia,e⟩
  split at h
  .exact old h
  .rcases Ya.mp h with q | q
   .exact old q
   .rw[Yy1]at q;exact⟨i,by lia,q.symm⟩
theorem Zm8(hM:1<=M.length):(grp M).length=1↔∀ i j,i<M.length->j<M.length->mk M i=mk M j:=by
 unfold grp;constructor
 .intro h i j hi hj;obtain⟨kv,e⟩:=List.length_eq_one_iff.mp h;have h1:=grpA_key (M:=M) hi
  have h2:=grpA_key (M:=M) hj;rw[e]at h1 h2;rw[Y2x,Yy1]at h1 h2;rw[h1,h2]
 .intro h;have nd:=Zz92 M M.length
  have h0:=grpA_key (M:=M) (i:=M.length) (j:=0) (by lia);generalize hg:(grpA M M.length)=g at *
  match g,hg with
  | [],_=>simp at h0
  | [kv],_=>rfl
  | a :: b :: r,hg =>
   exfalso;obtain⟨i,hi,e1⟩:=Zl1 M M.length a.1 (by rw[hg];simp)
   obtain⟨j,hj,e2⟩:=Zl1 M M.length b.1 (by rw[hg];simp);have e3:=h i j hi hj
   have:a.1=b.1:=by rw[<- e1,<- e2,e3]
   simp[this]at nd
theorem SameP.one(s:SameP m l):(∀ i j,i<m.length->j<m.length->mk m i=mk m j)↔(∀ i j,i<l.length->j<l.length->mk l i=mk l j):=by
 obtain⟨hl,h⟩:=s;rw[<- hl];constructor
 .intro q i j hi hj;exact(h i j hi hj).mp (q i j hi hj)
 .intro q i j hi hj;exact(h i j hi hj).mpr (q i j hi hj)
theorem ZF3:∀ {i:Nat} {kv:Int × Ac},kv∈grpA M i->kv.2.length<=i
 | 0,kv,h=>by simp[grpA]at h
 | i+1,kv,h=>by
  unfold grpA ZE3 at h;split at h
  .obtain⟨kv0,h0,e⟩:=Yx.mp h;have ih:=ZF3 h0
   by_cases hc:kv0.1=mk M i
   .rw[if_pos hc]at e;subst e;rw[Yy5,YB];lia
   .rw[if_neg hc]at e;subst e;lia
  .rcases Ya.mp h with h0 | h0
   .have ih:=ZF3 h0;omega
   .rw[Yy1]at h0;subst h0;simp
end My
namespace My
open PySem L2 PyProof.Rows
theorem Zb6(z:Int)(l:Ac):inV (.int z) (IL l)=decide (z∈l):=by
 unfold inV;rw[List.any_map];rw[Y0M,Y2V,YH];constructor
 .rintro⟨y,hy,e⟩;have e':y=z:=by simpa [eqV] using e
  rwa[<- e']
 .intro h;exact⟨z,h,by simp[eqV]⟩
theorem Zr4(l:Ac):(IL l).all ZP2=true:=by rw[List.all_map,Y0q];intro x _;rfl
theorem Zz72{K:Ad}{t:Value}:PySem.W.kitOne K t t=some true:=by unfold PySem.W.kitOne;rw[if_pos (Yy29 t)]
theorem Zw:decide (V.int a=V.int b)=decide (a=b):=by
 by_cases h:a=b
 .subst h;simp
 .have h':¬ V.int a=V.int b:=λz=>h (V.int.inj z);rw[YT h,YT h']
end My
namespace My
open PySem L2
def IsSet(m:Nat)(ns:Ac):Prop:=∀ i z,ns[i]?=some z->0<=z/\z<(m:Int)/\∀ y,i≠0->ns[i - 1]?=some y->y<z
def Zz7(ps:Aa)(ns:Ac):List (Nat × Nat):=ns.map λz=>((ps.getD z.toNat (0,0)).1.toNat,(ps.getD z.toNat (0,0)).2.toNat)
theorem Zz25{ns:Ac}{z:Int}(h:ns[i]?=some z):Zz7 ps (ns.take (i+1))=Zz7 ps (ns.take i)++[((ps.getD z.toNat (0,0)).1.toNat,(ps.getD z.toNat (0,0)).2.toNat)]:=by unfold Zz7;rw[YS,h];simp
theorem ZJ1(h:i<m.length):m[i]?=some (mk m i):=by rw[Yy2 h];simp[mk,Yy7,Yy2 h]
theorem Zz14(n:Int):rngI 0 n=(List.range n.toNat).map λ(i:Nat)=>(i:Int):=by unfold rngI;rw[Y2W];refine YM λi _=>?_;lia
def gkv(g:List (Int × Ac))(as:List Addr):List (Key × V):=List.zipWith (λkv a=>((Sum.inl kv.1:Key),V.ref a)) g as
theorem Zk6(h:as.length=g.length):(gkv g as).length=g.length:=by unfold gkv;rw[Y1f];grind
theorem Zq8:∀ {g:List (Int × Ac)} {as:List Addr},as.length=g.length->(gkv g as).map (·.2)=as.map V.ref
 | [],[],_=>rfl
 | [],_ :: _,h=>by simp at h
 | _ :: _,[],h=>by simp at h
 | kv :: g,a :: as,h=>by show V.ref a :: (gkv g as).map (·.2)=V.ref a :: as.map V.ref;rw[Zq8 (Yy19 h)]
theorem Zl6:∀ {g g':List (Int × Ac)} {as:List Addr},g.map (·.1)=g'.map (·.1)->gkv g as=gkv g' as
 | [],[],_,_=>rfl
 | [],_ :: _,_,h=>by simp at h
 | _ :: _,[],_,h=>by simp at h
 | kv :: g,kv' :: g',[],_=>rfl
 | kv :: g,kv' :: g',a :: as,h=>by
  rw[YU,YU,List.cons.injEq]at h;show((Sum.inl kv.1:Key),V.ref a) :: gkv g as=((Sum.inl kv'.1:Key),V.ref a) :: gkv g' as
  rw[h.1,Zl6 h.2]
theorem Zj6:∀ {g:List (Int × Ac)} {as:List Addr} {kv:Int × Ac} {a:Addr},as.length=g.length->gkv (g++[kv]) (as++[a])=gkv g as++[((Sum.inl kv.1:Key),V.ref a)]
 | [],[],_,_,_=>rfl
 | [],_ :: _,_,_,h=>by simp at h
 | _ :: _,[],_,_,h=>by simp at h
 | x :: g,y :: as,kv,a,h=>by show _ :: gkv (g++[kv]) (as++[a])=_ :: (gkv g as++_);rw[Zj6 (Yy19 h)]
theorem Zi6:∀ {g:List (Int × Ac)} {as:List Addr} {k:Int},as.length=g.length ->
  (valV (gkv g as) (Sum.inl k:Key)=none/\k∉g.map (·.1))\/∃(j:Nat) (kv:Int × Ac) (a:Addr),g[j]?=some kv/\as[j]?=some a/\kv.1=k/\valV (gkv g as) (Sum.inl k:Key)=some (.ref a)
 | [],[],k,_=>.inl ⟨rfl,by simp⟩
 | [],_ :: _,_,h=>by simp at h
 | _ :: _,[],_,h=>by simp at h
 | kv :: g,a :: as,k,h=>by
  by_cases e:kv.1=k
  .refine .inr ⟨0,kv,a,rfl,rfl,e,?_⟩;show valV (((Sum.inl kv.1:Key),V.ref a) :: gkv g as) _=_
   rw[Zl3 (by rw[e])]
  .have e':¬ ((Sum.inl kv.1:Key)=Sum.inl k):=λz=>e (Sum.inl.inj z);have ev:valV (gkv (kv :: g) (a :: as)) (Sum.inl k:Key)=valV (gkv g as) (Sum.inl k:Key):=Zm3 (p:=((Sum.inl kv.1:Key),V.ref a)) e'
   rcases Zi6 (g:=g) (as:=as) (k:=k) (Yy19 h) with ⟨h1,h2⟩ | ⟨j,kv',a',h1,h2,h3,h4⟩
   .refine .inl ⟨by rw[ev];exact h1,?_⟩;rw[YU,Ye];rintro(z | z)
    .exact e z.symm
    .exact h2 z
   .exact .inr ⟨j+1,kv',a',by simpa using h1,by simpa using h2,h3,by rwa[ev]⟩
structure GrpAt (H0 H:Hp) (g:List (Int × Ac)) (as:List Addr):Prop where
 len:as.length=g.length
 nd:as.Nodup
 at_:∀(i:Nat) (kv:Int × Ac) (a:Addr),g[i]?=some kv->as[i]?=some a->H a=some (.lst (IL kv.2))
 new:∀ a∈as,H0 a=none
theorem GrpAt.same(s:Same H H')(h:GrpAt H0 H g as):GrpAt H0 H' g as:=⟨h.len,h.nd,λi kv a e1 e2=>s _ _ (h.at_ i kv a e1 e2),h.new⟩
theorem GrpAt.mem(h:GrpAt H0 H g as){a:Addr}(ha:a∈as):∃ l,H a=some (.lst l):=by
 obtain⟨i,hi,e⟩:=Y2s ha;have hg:i<g.length:=by rwa[<- h.len]
 exact⟨_,h.at_ i g[i] a (Yy2 hg) (by rw[Yy2 hi,e])⟩
theorem IsSet.all(h:IsSet m ns):∀ z∈ns,0<=z/\z<(m:Int):=λz hz=>by obtain⟨i,hi,e⟩:=Y2s hz;obtain⟨a,b,_⟩:=h i z (by rw[Yy2 hi,e]);exact⟨a,b⟩
theorem IsSet.nil(m:Nat):IsSet m []:=λi z e=>by simp at e
theorem IsSet.up(h:IsSet m ns):IsSet (m+1) ns:=λi z e=>by obtain⟨a,b,c⟩:=h i z e;exact⟨a,by omega,c⟩
theorem IsSet.snoc(h:IsSet m ns):IsSet (m+1) (ns++[(m:Int)]):=λi z e=>by
 by_cases hi:i<ns.length
 .rw[Yu hi]at e;obtain⟨a,b,c⟩:=h i z e;refine⟨a,by lia,λy h0 ey=>?_⟩;rw[Yu (by omega)]at ey;exact c y h0 ey
 .have hl:i=ns.length:=by
   have:=(Yy3.mp e).1
   rw[Yy5,YB]at this;lia
  subst hl;rw[Yv (Yy6 _),Y1a]at e;have e:(m:Int)=z:=Yd e
  subst e;refine⟨by lia,by lia,λy h0 ey=>?_⟩;rw[Yu (by omega)]at ey;exact(h _ y ey).2.1
theorem IsSet.len:∀ {ns:Ac},IsSet m ns->ns.length<=m:=λ{ns} h=>by
 have key:∀(i:Nat) (z:Int),ns[i]?=some z->(i:Int)<=z:=by
  intro i
  induction i with
  | zero=>intro z e;exact(h 0 z e).1
  | succ i ih =>
   intro z e;have hi:i<ns.length:=by have:=(Yy3.mp e).1;lia
   have e2:ns[i]?=some ns[i]:=Yy2 hi
   have:=ih _ e2
   have:=(h (i+1) z e).2.2 ns[i] (by lia) (by rwa[Y2w])
   lia
 by_cases h0:ns.length=0
 .lia
 .have e:ns[ns.length - 1]?=some (ns[ns.length - 1]'(by lia)):=Yy2 _;have a:=key _ _ e
  have b:=(h _ _ e).2.1;lia
section
variable{K:Ad}{H:Hp}{α:Type}[DecidableEq α]
def Bears(R:V->α->Prop)(xs:List V)(l:List α):Prop:=xs.length=l.length/\∀(i:Nat) (a:α),l[i]?=some a->∃ x,xs[i]?=some x/\R x a
theorem Bears.at{R:V->α->Prop}(h:Bears R xs l){i:Nat}{x:V}(e:xs[i]?=some x):∃ a,l[i]?=some a/\R x a:=by
 have hi:i<xs.length:=(Yy3.mp e).1;have hl:i<l.length:=by rwa[<- h.1]
 obtain⟨x',e1,q⟩:=h.2 i l[i] (Yy2 hl);rw[e]at e1;cases e1;exact⟨_,Yy2 hl,q⟩
theorem ZF8{l m:List α}(h:l.length=m.length):(List.range l.length).all (λi=>decide (l[i]?=m[i]?))=decide (l=m):=by
 rw[Y0M,Y0q,YH];constructor
 .intro q;refine Y0F λi=>?_;by_cases hi:i<l.length
  .exact Yy (q i (YG.mpr hi))
  .rw[YJ (by lia),YJ (by lia)]
 .rintro rfl i _;simp
theorem Zt4{R:V->α->Prop}(hp:SqL K H p xs)(hq:SqL K H q ys)(h1:Bears R xs l)(h2:Bears R ys m)(hR:∀ x y a b,R x a->R y b->EqD K H n x y (decide (a=b))):EqD K H (n+1) (.ref p) (.ref q) (decide (l=m)):=by
 by_cases hl:xs.length=ys.length
 .have e:=ZF8 (l:=l) (m:=m) (by rw[<- h1.1,<- h2.1,hl]);rw[<- e,<- h1.1];refine EqD.lsts hp hq hl λi x y ex ey=>?_;obtain⟨a,ea,ra⟩:=h1.at ex;obtain⟨b,eb,rb⟩:=h2.at ey;rw[ea,eb,show decide (some a=some b)=decide (a=b) by simp];exact hR x y a b ra rb
 .have e:decide (l=m)=false:=YT λz=>hl (by rw[h1.1,h2.1,z]);rw[e];exact EqD.lens hp hq hl
theorem ZK9{R:V->α->Prop}(hp:SqT K H p xs)(hq:SqT K H q ys)(h1:Bears R xs l)(h2:Bears R ys m)(hR:∀ x y a b,R x a->R y b->EqD K H n x y (decide (a=b))):EqD K H (n+1) (.ref p) (.ref q) (decide (l=m)):=by
 have key:=EqD.tups (e:=λi=>decide (l[i]?=m[i]?)) hp hq λi x y ex ey=>by obtain⟨a,ea,ra⟩:=h1.at ex;obtain⟨b,eb,rb⟩:=h2.at ey;rw[ea,eb,show decide (some a=some b)=decide (a=b) by simp];exact hR x y a b ra rb
 by_cases hl:xs.length=ys.length
 .have e:=ZF8 (l:=l) (m:=m) (by rw[<- h1.1,<- h2.1,hl]);rwa[<- hl,Nat.min_self,h1.1,e,show(l.length == l.length)=true by simp,Bool.and_true]at key
 .have e:decide (l=m)=false:=YT λz=>hl (by rw[h1.1,h2.1,z]);rw[show(xs.length == ys.length)=false by simpa using hl,Bool.and_false]at key;rwa[e]
theorem Zx1(ns:Ac):Bears (λx (z:Int)=>x=.int z) (IL ns) ns:=⟨Zz5 ns,λi z e=>⟨_,ZW4 e,rfl⟩⟩
theorem Zt6{a b:Int}(hx:x=.int a)(hy:y=.int b):EqD K H n x y (decide (a=b)):=by
 subst hx hy;have e:decide (a=b)=eqV (.int a) (.int b):=by show decide (a=b)=(a == b);rw[Y3D]
 rw[e];exact EqD.flat rfl rfl
theorem ZL9(hp:SqL K H p (IL ns))(hq:SqL K H q (IL ms)):EqD K H 1 (.ref p) (.ref q) (decide (ns=ms)) :=
 Zt4 hp hq (Zx1 ns) (Zx1 ms) λ_ _ _ _=>Zt6
theorem ZH2(hp:SqT K H p (IL ns))(hq:SqT K H q (IL ms)):EqD K H 1 (.ref p) (.ref q) (decide (ns=ms)) :=
 ZK9 hp hq (Zx1 ns) (Zx1 ms) λ_ _ _ _=>Zt6
theorem ZC7{bs cs:List Bool}(hp:SqL K H p (bs.map V.bl))(hq:SqL K H q (cs.map V.bl)):EqD K H 1 (.ref p) (.ref q) (decide (bs=cs)):=by
 have be:∀ bs:List Bool,Bears (λx (b:Bool)=>x=.bl b) (bs.map V.bl) bs:=λbs=>⟨Yc ..,λi b e=>⟨_,by rw[Yp,e];rfl,rfl⟩⟩;refine Zt4 hp hq (be bs) (be cs) λx y a b hx hy=>?_;subst hx hy;have e:decide (a=b)=eqV (.bl a) (.bl b):=by show decide (a=b)=(a == b);rw[Y3D]
 rw[e];exact EqD.flat rfl rfl
def ZZ6(H:Hp)(v:V)(l:Ac):Prop:=∃ a,v=.ref a/\H a=some (.lst (IL l))
end
end My
namespace My
def fstB(M:Ac)(p:Nat):Bool:=(List.range p).all λi=>decide (mk M i≠mk M p)
def posA(M:Ac)(k:Int)(i:Nat):Ac:=((List.range i).filter λj=>decide (mk M j=k)).map λ(j:Nat)=>(j:Int)
def fstA(M:Ac)(i:Nat):List Nat:=(List.range i).filter (fstB M)
theorem fstB_iff:fstB M p=true↔∀ i,i<p->mk M i≠mk M p:=by
 unfold fstB;rw[Y0q];constructor
 .intro h i hi;exact Yy (h i (YG.mpr hi))
 .intro h i hi;exact Yt (h i (YG.mp hi))
theorem Zu2(M:Ac)(k:Int)(i:Nat):posA M k (i+1)=posA M k i++(if mk M i=k then [(i:Int)] else []):=by
 unfold posA;rw[Y0L,Yy04,YC];congr 1;by_cases h:mk M i=k
 .rw[if_pos h,Y0B,if_pos (by simpa using h)];rfl
 .rw[if_neg h,Y0B,if_neg (by simpa using h)];rfl
theorem Zo4(M:Ac)(i:Nat):fstA M (i+1)=fstA M i++(if fstB M i=true then [i] else []):=by
 unfold fstA;rw[Y0L,Yy04];congr 1;by_cases h:fstB M i=true
 .rw[if_pos h,Y0B,if_pos h];rfl
 .rw[if_neg h,Y0B,if_neg h];rfl
theorem Zn8(M:Ac):∀ i,grpA M i=(fstA M i).map λp=>(mk M p,posA M (mk M p) i)
 | 0=>rfl
 | i+1=>by
  have ih:=Zn8 M i;show ZE3 (grpA M i) (i:Int) (mk M i)=_
  have hk:(mk M i∈(grpA M i).map (·.1))↔fstB M i≠true:=by
   constructor
   .intro h q;obtain⟨j,hj,e⟩:=Zl1 M i _ h;exact fstB_iff.mp q j hj e
   .intro h;by_cases q:∃ j,j<i/\mk M j=mk M i
    .obtain⟨j,hj,e⟩:=q;rw[<- e];exact grpA_key hj
    .exact absurd (fstB_iff.mpr λj hj e=>q ⟨j,hj,e⟩) h
  unfold ZE3;by_cases h:mk M i∈(grpA M i).map (·.1)
  .have hf:=hk.mp h;rw[if_pos h,Zo4,if_neg hf,YO,ih,Y2m];refine YM λp _=>?_;show(if mk M p=mk M i then (mk M p,posA M (mk M p) i++[(i:Int)]) else (mk M p,posA M (mk M p) i))=(mk M p,posA M (mk M p) (i+1))
   rw[Zu2];by_cases e:mk M p=mk M i
   .rw[if_pos e,if_pos e.symm]
   .rw[if_neg e,if_neg (λz=>e z.symm),YO]
  .have hf:fstB M i=true:=by
    cases q:fstB M i with
    | true=>rfl
    | false=>exact absurd (hk.mpr (by rw[q];exact Yq)) h
   rw[if_neg h,Zo4,if_pos hf,YC,ih];congr 1
   .refine YM λp hp=>?_;have hpi:p<i:=YG.mp (Yn.mp hp).1
    rw[Zu2,if_neg (λz=>fstB_iff.mp hf p hpi z.symm),YO]
   .show [(mk M i,[(i:Int)])]=[(mk M i,posA M (mk M i) (i+1))];rw[Zu2,if_pos rfl];have e0:posA M (mk M i) i=[]:=by unfold posA;rw[Y3w.mpr λj hj=>by simpa using fstB_iff.mp hf j (YG.mp hj)];rfl
    rw[e0];rfl
end My
namespace My
open PySem L2
theorem Bears.snoc{α:Type}[DecidableEq α]{R:V->α->Prop}{xs:List V}{l:List α}{x:V}{a:α}(h:Bears R xs l)(hx:R x a):Bears R (xs++[x]) (l++[a]):=by
 refine⟨by rw[Yy5,Yy5,h.1];rfl,λi b e=>?_⟩;by_cases hi:i<l.length
 .rw[Yu hi]at e;rw[Yu (by rwa[h.1])];exact h.2 i b e
 .have hl:i=l.length:=by
   have:=(Yy3.mp e).1
   rw[Yy5,YB]at this;lia
  subst hl;rw[Yv (Yy6 _),Y1a]at e;rw[Yv (by rw[h.1];exact Yy6 _),h.1,Y1a];have e':a=b:=Yd e
  subst e';exact⟨x,rfl,hx⟩
theorem Bears.imp{α:Type}[DecidableEq α]{R R':V->α->Prop}{xs:List V}{l:List α}(h:Bears R xs l)(f:∀ x a,R x a->R' x a):Bears R' xs l:=⟨h.1,λi a e=>let ⟨x,e1,r⟩:=h.2 i a e;⟨x,e1,f x a r⟩⟩
end My
namespace L2
open PySem PySem.Spec PyProof.Rows
theorem ObjOk.there(x:ObjOk P w H h a o):∃ u,h.get? a=some u:=by
 cases o with
 | lst xs=>obtain⟨_,_,_,_,e⟩:=x;exact⟨_,e⟩
 | tup xs=>obtain⟨_,_,_,o,e,_⟩:=x;exact⟨_,e⟩
 | dK kvs=>obtain⟨_,_,_,_,o,_,_,e,_⟩:=x;exact⟨_,e⟩
 | dT kvs=>obtain⟨_,_,_,_,o,_,_,e,_⟩:=x;exact⟨_,e⟩
 | set S n=>obtain⟨o,_,_,_,e,_⟩:=x;exact⟨_,e⟩
 | ins C dx fs=>obtain⟨_,_,_,e,_⟩:=x;exact⟨_,e⟩
 | own y=>exact x
 | xd fs=>obtain⟨_,⟨_,_,_,e,_⟩,_⟩:=x;exact⟨_,e⟩
 | rng lo hi=>obtain⟨_,_,_,e⟩:=x;exact⟨_,e⟩
 | frz ob u=>obtain⟨e,_⟩:=x;exact⟨_,e⟩
 | tbl ps=>exact⟨_,x⟩
 | met f y=>exact⟨_,x⟩
 | ext φ=>obtain⟨_,e,_⟩:=x;exact e
structure Fly (h0:Heap) (H:Hp) (e C:Addr) (h:Heap):Prop where
 ex:∃ oe vs T oT ts a0,h.get? e=some oe/\oe.cls=.ref C/\oe.data=.fields vs/\vs[0]?=some a0/\vs[1]?=some (.ref T)/\T≠e/\h.get? T=some oT/\oT.data=.fields ts/\ts[3]?=some .none/\h0.get? T=none/\H T=none
 new:h0.get? e=none
 free:H e=none
def CXW(P:Program)(w:World):CXT:=λouter H s E ev s'=>∃(e C:Addr) (H':Hp),ev=Value.ref e/\s'.os=s.os/\AllBare s'.gens/\Un (frs outer) [] H H' s.heap s'.heap/\HOk P w H' s'.heap/\Fly s.heap H' e C s'.heap/\E (.ref C) none H'
section
variable{X:Cx}{pins:List (Addr × Obj)}{σ:St}{H:Hp}{s:Shared}{e C:Addr}
abbrev grd(X:Cx)(h:Heap)(ns:List Addr):Heap:=PySem.W.hideAll h (frs X.stack++ns)
theorem Za2{b:Addr}{o:Obj}(q:h.get? b=some o)(h1:b∉frs X.stack)(h2:b∉ns):(grd X h ns).get? b=some o :=
 PySem.W.hideAll_get _ q λz=>(Ya.mp z).elim h1 h2
theorem Zu11:(grd X h ns).StaysIn h:=λ_ _ q=>PySem.W.of_hideAll _ q
theorem Inv.was(I:Inv X pins σ H s)(hex:X.ex=[]){b:Addr}(h:s.heap.get? b=none):X.s₀.heap.get? b=none:=by
 cases q:X.s₀.heap.get? b with
 | none=>rfl
 | some o =>
  obtain⟨o',e⟩:=I.base.there b o q (by rw[hex];simp);rw[h]at e;cases e
theorem Zj8(ok:HOk P w H h)(hf:∀ b∈frs X.stack,H b=none)(hns:∀ b∈ns,H b=none)(k:(grd X h ns).StaysIn h'):HOk P w H h':=λa o q =>
 (ok a o q).stay (λb u hb g=>k b u (Za2 g (λz=>by
  have:=hf b z
  rcases hb with rfl | hb
  .rw[q]at this;cases this
  .rw[hb]at this;cases this) λz=>by
  have:=hns b z
  rcases hb with rfl | hb
  .rw[q]at this;cases this
  .rw[hb]at this;cases this)) (λ_ z=>z) λ_ _ z=>z
theorem Yz7(hst:X.stack=X.env :: X.outer)(hfr:X.env.frame=some X.env.locals):frs X.stack=X.env.locals :: frs X.outer:=by rw[hst];unfold frs;rw[Y1h,hfr]
theorem Yz8(hst:X.stack=X.env :: X.outer)(hfr:X.env.frame=some X.env.locals)(hex:X.ex=[])(I:Inv X pins σ H s)(hns:∀ b∈ns,X.s₀.heap.get? b=none/\H b=none) 
  (hfl:Heap.FlyingW (grd X s.heap ns) X.outer e (.ref C) a0 h') (up:s.heap.UpToSlots h') (ne:X.s₀.heap.get? e=none) (fe:H e=none) (hE:E (.ref C) none H) (hs:s'.heap=h') (ho:s'.os=s.os) (hg:s'.gens=s.gens) :
  CXW X.prog X.w X.outer X.H₀ X.s₀ E (.ref e) s':=by
 subst hs;have fst:=Yz7 (X:=X) hst hfr
 have noL:∀ b o,X.s₀.heap.get? b=some o->b≠X.env.locals:=λb o q=>Yo (Ym (Yh q) I.ok.above);have nns:∀ b o,X.s₀.heap.get? b=some o->b∉ns:=λb o q z=>by rw[(hns b z).1]at q;cases q
 have nfs:∀ b o,X.s₀.heap.get? b=some o->b∉frs X.outer->b∉frs X.stack:=λb o q n z=>by
  rw[fst]at z;rcases Ye.mp z with z | z
  .exact noL b o q z
  .exact n z
 have nex:∀ b,b∉X.ex:=λb z=>by rw[hex]at z;cases z
 have keep:∀ b o u,X.s₀.heap.get? b=some o->b∉frs X.outer->s.heap.get? b=some u->s'.heap.get? b=some u:=λb o u q n g=>hfl.1 b u (Za2 g (nfs b o q n) (nns b o q));have slot:∀ b u,b∈frs X.outer->s.heap.get? b=some u->∃ sl,s'.heap.get? b=some { u with slots:=sl }:=λb u hb g=>by obtain⟨_,o',ho',hd⟩:=I.funs.mem hb;rw[g]at ho';cases ho';exact up b u g hd
 refine⟨e,C,H,rfl,ho.trans I.os,hg ▸ I.bare,⟨λb o q n hb _=>?_,λb o q n hb _=>?_,λb o q n _=>I.base.free b o q n (nex b),λb o q _=>?_,I.base.tups,I.base.frzs,I.base.tbls⟩,Zj8 I.hok I.stkFree (λb hb=>(hns b hb).2) hfl.1,⟨?_,ne,fe⟩,hE⟩
 .exact keep b o o q hb (I.base.keep b o q n hb (nex b))
 .obtain⟨sl,g⟩:=I.base.slot b o q n hb (nex b);obtain⟨sl',g'⟩:=slot b _ hb g;exact⟨sl',g'⟩
 .obtain⟨u,g⟩:=I.base.there b o q (nex b);by_cases hb:b∈frs X.outer
  .obtain⟨sl,g'⟩:=slot b u hb g;exact⟨_,g'⟩
  .exact⟨u,keep b o u q hb g⟩
 .obtain⟨f1,f2,f3,oe,vs,T,oT,ts,he,⟨hc,h0⟩,hd,h1,hnT,hTe,hT,hdT,h3⟩:=hfl;refine⟨oe,vs,T,oT,ts,a0,he,hc,hd,h0,h1,hTe,hT,hdT,h3,?_,?_⟩
  .cases q:X.s₀.heap.get? T with
   | none=>rfl
   | some o =>
    obtain⟨u,g⟩:=I.base.there T o q (nex T);by_cases hb:T∈frs X.outer
    .obtain⟨_,o',ho',hd'⟩:=f3.mem hb;rw[hT]at ho';cases ho';exact absurd hdT (hd' ts)
    .rw[Za2 g (nfs T o q hb) (nns T o q)]at hnT;cases hnT
  .cases q:H T with
   | none=>rfl
   | some ho =>
    obtain⟨u,g⟩:=(I.hok T ho q).there;rw[Za2 g (λz=>by rw[I.stkFree T z]at q;cases q) (λz=>by rw[(hns T z).2]at q;cases q)]at hnT;cases hnT
theorem Zq6(hst:X.stack=X.env :: X.outer)(I:Inv X pins σ H s)(F:Fly h0 H e C s.heap):∃ T a0,Heap.FlyingW (grd X s.heap [e,T]) X.stack e (.ref C) a0 s.heap/\h0.get? T=none/\H T=none:=by obtain⟨oe,vs,T,oT,ts,a0,he,hc,hd,h0',h1,hTe,hT,hdT,h3,nT,fT⟩:=F.ex;refine⟨T,a0,⟨Zu11,Y2k _ (by simp),?_,oe,vs,T,oT,ts,he,⟨hc,h0'⟩,hd,h1,Y2k _ (by simp),hTe,hT,hdT,h3⟩,nT,fT⟩;exact Y3t I.stack λenv henv a hf=>Yg _ (Y1V.mpr ⟨env,henv,hf⟩)
theorem Zk7(hst:X.stack=X.env :: X.outer)(hfr:X.env.frame=some X.env.locals)(hex:X.ex=[])(I:Inv X pins σ H s)(F:Fly X.s₀.heap H e C s.heap)(hE:E (.ref C) none H){E':Ae} :
  wpAny (model X.prog X.w) X.A (leaving X.env (.ref e)) (λ_ s''=>CXW X.prog X.w X.outer X.H₀ X.s₀ E (.ref e) s'') E' s:=by
 obtain⟨T,a0,fl,nT,fT⟩:=Zq6 hst I F;rw[hst]at fl;refine wpAny_leaves_onW (by rw[I.ok.frames,hst]) hfr fl λh' fl' up=>?_;refine Yz8 hst hfr hex I (λb hb=>?_) fl' up F.new F.free hE rfl rfl rfl;rcases Ye.mp hb with rfl | hb
 .exact⟨F.new,F.free⟩
 .rw[Yy1.mp hb];exact⟨nT,fT⟩
theorem Zz66(hst:X.stack=X.env :: X.outer)(hfr:X.env.frame=some X.env.locals)(hex:X.ex=[])(I:Inv X pins σ H s)(hm:Heap.MadeExcOf s.heap h' e (.ref C) vs)(hE:E (.ref C) none H){E':Ae} :
  wpAny (model X.prog X.w) X.A (leaving X.env (.ref e)) (λ_ s''=>CXW X.prog X.w X.outer X.H₀ X.s₀ E (.ref e) s'') E' { s with heap:=h' }:=by
 have ff:s.heap.FunFrames (grd X s.heap []) X.stack:=Y3t I.stack λenv henv a hf=>Yg _ (Y1V.mpr ⟨env,henv,hf⟩);rw[hst]at ff;refine wpAny_leaves_madeW (base:=grd X s.heap []) (h:=s.heap) (by rw[I.ok.frames,hst]) hfr Zu11 ff hm λh'' t fl _ _ up=>?_;have fe:H e=none:=by
  cases q:H e with
  | none=>rfl
  | some ho =>
   obtain⟨u,g⟩:=(I.hok e ho q).there;rw[hm.new]at g;cases g
 exact Yz8 (s':={ s with heap:=h'' }) hst hfr hex I (λb hb=>by cases hb) fl ((Heap.UpToSlots.of_keeps hm.keeps).trans up) (I.was hex hm.new) fe hE rfl rfl rfl
theorem Inv.flown(I:Inv X pins σ H s)(h:CXW X.prog X.w X.stack H s E ev s'):∃ e C H',ev=Value.ref e/\Inv X pins σ H' s'/\Fly s.heap H' e C s'.heap/\E (.ref C) none H':=by obtain⟨e,C,H',rfl,ho,hg,u,ok,F,hE⟩:=h;exact⟨e,C,H',rfl,I.call' (ch:=[]) ho u ok hg (λ_ z=>nomatch z),F,hE⟩
theorem Fly.older(F:Fly h0 H e C h)(k:∀ b,h0.get? b=none->h1.get? b=none):Fly h1 H e C h:=by obtain⟨oe,vs,T,oT,ts,a0,he,hc,hd,h0',h1',hTe,hT,hdT,h3,nT,fT⟩:=F.ex;exact⟨⟨oe,vs,T,oT,ts,a0,he,hc,hd,h0',h1',hTe,hT,hdT,h3,k _ nT,fT⟩,k _ F.new,F.free⟩
end
section
variable{P:Program}{w:World}{K:Ad}{mg:Af}{base:Heap}
theorem pxs:ZR3 (CXW P w) (cxOf (CXW P w) P w K mg base N qual scope f cd A outer s H E) E:=by intro pins σ H1 s1 ev s' I h;obtain⟨e,C,H',rfl,J,F,hE⟩:=I.flown h;exact Zk7 rfl rfl rfl J (F.older λb hb=>I.was rfl hb) hE
theorem Fun.okX{x qual:Str}{st:Stmt}{f:Addr}{fd:FuncData}{N ps:List Str}{k:Nat}{sp:Sp}(F:Fun K x qual st f fd)(S:FnScope N ps (Zz4 st))(len:∀ vs H Q E,sp vs H Q E->vs.length=ps.length)
  (hbody:∀(cdv:Value) (A:Around) (outer:List Env) (s:Shared) (H:Hp) (vs:List V) (Q:VK) (E:XK),Room k (A.deeper (envOfC qual (Zz4 st) s.heap.objs.size f cdv))->sp vs H Q E ->
   ∃ t,PSs (cxOf (CXW P w) P w K mg base N qual (Zz4 st) f cdv A outer s H E) (Zi1 st) t/\t { nx:=λ_ H'=>Q .non H',rt:=Q } (start N vs) H):FnOk P w K mg base (CXW P w) (k+1) f fd ps sp:=by obtain⟨oc,od,kV,doc,pm,an,cdv,ct,osl,rfl,lk,hcd⟩:=F.ex;exact ZW12 lk hcd S len λA outer s H vs Q E hr hsp=>hbody cdv A outer s H vs Q E hr hsp
end
structure XCls (K:Ad) (C:Addr):Prop where
 ex:PySem.W.excIn K C [.type "ValueError",.type "Exception",.type "BaseException",.type "object"] "ValueError.__new__"=true
 ga:PySem.W.findIn K (.ref C) "__getattribute__"=some (some (.builtin "BaseException.__getattribute__"))
 gh:PySem.W.findIn K (.ref C) "__getattr__"=some none
 cl:PySem.W.findIn K (.ref C) "__class__"=some (some (.builtin "object.__class__"))
 ob:PySem.W.mroIn K C (.type "object")=some true
 bx:PySem.W.mroIn K C (.type "BaseException")=some true
theorem XCls.obj {K:Ad} {C:Addr} {h:Heap} (c:XCls K C) (X:K.In h):∃ bm N nm q bs hdct sn sub ab col dd k0 k1 k2 k3 k5 mN,h.get? C=some (excClassObj nm q C N bs bm hdct sn sub ab col dd k0 k1 k2 k3 k5 "ValueError.__new__")/\h.Ns N mN/\mN "__init__"=none/\OwnTail h [.type "ValueError",.type "Exception",.type "BaseException",.type "object"] bm:=by
 have q:=c.ex;unfold PySem.W.excIn at q;split at q
 .rename_i dd cd sl ho;split at q
  .rename_i C' bm k0 k1 k2 k3 n k5 hm hs;simp only [Y0r,Y0X,Bool.not_eq_true']at q;obtain⟨⟨⟨⟨⟨rfl,rfl⟩,hdel⟩,ht⟩,hok⟩,hni⟩:=q;obtain⟨nm,bs,mro,ns,qn,hd,sn,sub,ab,col,del⟩:=cd;dsimp only at hm hdel hok hni;subst hm hdel;have hsl:sl=#[k0,k1,k2,k3,some (.builtin "ValueError.__new__"),k5]:=by obtain⟨l⟩:=sl;simp only at hs;rw[hs]
   subst hsl;exact⟨bm,ns,nm,qn,bs,hd,sn,sub,ab,col,dd,k0,k1,k2,k3,k5,_,X _ _ ho,.of_isNs (PySem.W.isNs_of_in X hok),PySem.W.nsMap_none_of_in X hok hni,PySem.W.tail_of_in X ht⟩
  .cases q
 .cases q
def Ze12(C:Addr)(E:XK)(t:TA):TS:=λ_ σ H=>t σ H λvs H1=>vs.length<=sizeLine/\E (.ref C) none H1
theorem ZV1{P:Program}{w:World}{K:Ad}{mg:Af}{base:Heap}{N:List Str}{qual:Str}{scope:Scope}{f:Addr}{cd:Value}{A:Around}{outer:List Env}{s0:Shared}{H0:Hp}{E:XK}{C:Addr}{x:Str}{np cpos pos:Pos}{e₀:Expr}{rest:List Expr}{t:TA}
  (c:XCls K C) (hm:mg x=some (.ref C)) (ha:PA (cxOf (CXW P w) P w K mg base N qual scope f cd A outer s0 H0 E) (e₀ :: rest) t)
  (hg:Gl (cxOf (CXW P w) P w K mg base N qual scope f cd A outer s0 H0 E) x:=by rfl) (hd:(x == ("__debug__":Str))=false:=by decide)
  (he:starEach (e₀ :: rest) (cxOf (CXW P w) P w K mg base N qual scope f cd A outer s0 H0 E).env=(false,eval e₀ (cxOf (CXW P w) P w K mg base N qual scope f cd A outer s0 H0 E).env) :: starEach rest (cxOf (CXW P w) P w K mg base N qual scope f cd A outer s0 H0 E).env:=by rfl)
  (hplain:(backTo cpos (starEach rest (cxOf (CXW P w) P w K mg base N qual scope f cd A outer s0 H0 E).env)).any (·.1)=false:=by rfl) :
  PS (cxOf (CXW P w) P w K mg base N qual scope f cd A outer s0 H0 E) (.Raise (some (.Call (.Name x np) (e₀ :: rest) [] cpos)) none pos) (Ze12 C E t):=by
 intro pins s σ H D I h;obtain⟨tl,NN,nm,q,bs,hdct,sn,sub,ab,col,dd,k0,k1,k2,k3,k5,mN,hC,hN,hni,T⟩:=c.obj I.ok.mod.kin;refine wpAny_Raise_call_subT (C:=C) (nm:=nm) (q:=q) (N:=NN) (bs:=bs) (bm:=tl) (hdct:=hdct) (sn:=sn) (sub:=sub) (ab:=ab) (col:=col) (dd:=dd) (k0:=k0) (k1:=k1) (k2:=k2) (k3:=k3) (k5:=k5)
  Yy30 (mN:=mN) (T.hasType Yy30.hasBase) (I.ok.hd rfl) (by rw[he];show(false || (backTo cpos (starEach rest _)).any (·.1))=false;rw[hplain];rfl) hni (Zz73 I hg hm ⟨rfl,?_⟩ hd)
 have h:=ha cpos pins s σ H _ I h;rw[he]at h ⊢;refine Calls.evalArgs_plain (Y0x h (λvs s₂ h₂=>?_) λ_ _ y=>y);obtain⟨zs,H2,I2,rz,hz,hE⟩:=h₂;refine⟨rfl,by rw[<- rz.length];exact hz,I2.bk _ _ hC,hN.keeps I2.bk,T.keeps I2.bk,λh' e hme=>?_⟩;exact Zz66 rfl rfl rfl I2 hme hE
section
variable{X:Cx}{pins:List (Addr × Obj)}{σ:St}{H:Hp}{s:Shared}{e:Addr}
theorem Inv.held(I:Inv X pins σ H s){tk:Nat}(hns:∀ b∈ns,X.s₀.heap.get? b=none/\H b=none/\(∀ p∈X.pn++pins,p.1≠b))(k:(grd X s.heap ns).StaysIn h')(up:s.heap.UpToSlots h'):Inv X pins σ H { s with heap:=h',toks:=tk }:=by
 have nns:∀ b o,X.s₀.heap.get? b=some o->b∉ns:=λb o q z=>by rw[(hns b z).1]at q;cases q
 have noL:∀ b o,X.s₀.heap.get? b=some o->b≠X.env.locals:=λb o q=>Yo (Ym (Yh q) I.ok.above);have nfs:∀ b,b≠X.env.locals->b∉X.fs->b∉frs X.stack:=λb h1 h2 z=>(Ye.mp (I.stkSub b z)).elim h1 h2
 have slot:∀ b u,b∈X.fs->s.heap.get? b=some u->∃ sl,h'.get? b=some { u with slots:=sl }:=λb u hb g=>by obtain⟨_,o',ho',hd⟩:=I.funs.mem hb;rw[g]at ho';cases ho';exact up b u g hd
 have cellK:∀ c v,s.heap.IsCell c v->h'.IsCell c v:=λc v ⟨o,ho,hd⟩=>by
  obtain⟨sl,g⟩:=up c o ho λvs q=>by rw[hd]at q;cases q
  exact⟨_,g,hd⟩
 refine⟨I.ok,I.os,I.bare,⟨λb o q n hb hx=>?_,λb o q n hb hx=>?_,I.base.free,λb o q hx=>?_,I.base.tups,I.base.frzs,I.base.tbls⟩,?_,λx c q=>?_,I.free,I.freeC,λp hp=>?_,Zj8 I.hok I.stkFree (λb hb=>(hns b hb).2.1) k,I.len⟩
 .exact k b o (Za2 (I.base.keep b o q n hb hx) (nfs b (noL b o q) hb) (nns b o q))
 .obtain⟨sl,g⟩:=I.base.slot b o q n hb hx;obtain⟨sl',g'⟩:=slot b _ hb g;exact⟨sl',g'⟩
 .obtain⟨u,g⟩:=I.base.there b o q hx;by_cases hb:b∈X.fs
  .obtain⟨sl,g'⟩:=slot b u hb g;exact⟨_,g'⟩
  .exact⟨u,k b u (Za2 g (nfs b (noL b o q) hb) (nns b o q))⟩
 .obtain⟨m,hn,hl⟩:=I.loc;refine⟨m,up.ns hn,λi x v e1 e2 e3=>?_⟩;obtain⟨u,r,l⟩:=hl i x v e1 e2 e3;refine⟨u,r,?_⟩;rcases l with l | ⟨kk,c,q,z⟩
  .exact .inl l
  .exact .inr ⟨kk,c,q,cellK c _ z⟩
 .obtain⟨v,z⟩:=I.cell x c q;exact⟨v,cellK c v z⟩
 .obtain⟨q,n,ne,nf,d⟩:=I.pin p hp;exact⟨k p.1 p.2 (Za2 q (nfs p.1 ne nf) λz=>(hns p.1 z).2.2 p hp rfl),n,ne,nf,d⟩
theorem Inv.gone(I:Inv X pins σ H s)(hN:X.N.Nodup){i:Nat}{n:Str}{tk:Nat}{m:Af}{v:Option Value}(hi:X.N[i]?=some n)(hn:s.heap.Ns X.env.locals m)
  (hn':h'.Ns X.env.locals (λx=>if x=n then v else m x)) (hs:Heap.SameBut X.env.locals s.heap h'):Inv X pins (σ.set i none) H { s with heap:=h',toks:=tk }:=by
 obtain⟨m0,hn0,hl⟩:=id I.loc;have em:m0=m:=by
  funext x
  obtain⟨o,es,ep,ho,hd,_,hf⟩:=hn0;obtain⟨o',es',ep',ho',hd',_,hf'⟩:=hn;rw[ho]at ho';cases ho';rw[hd]at hd';cases hd';rw[<- hf,<- hf']
 subst em;have cne:=I.cne
 have hiσ:i<σ.length:=by rw[I.len];exact(Yy3.mp hi).1
 obtain⟨oL,_,_,hoL,_⟩:=id hn;refine⟨I.ok,I.os,I.bare,⟨λb o q n hb hx=>?_,λb o q n hb hx=>?_,I.base.free,λb o q hx=>?_,I.base.tups,I.base.frzs,I.base.tbls⟩,⟨_,hn',λj y v' e1 e2 e3=>?_⟩,λy c q=>?_,I.free,I.freeC,λp hp=>?_,λb ob q=>?_,by simpa using I.len⟩
 .exact(hs.2 b (Yo (Ym (Yh q) I.ok.above))).trans (I.base.keep b o q n hb hx)
 .obtain⟨sl,e1⟩:=I.base.slot b o q n hb hx;exact⟨sl,(hs.2 b (Yo (Ym (Yh q) I.ok.above))).trans e1⟩
 .obtain⟨o',e1⟩:=I.base.there b o q hx;exact⟨o',(hs.2 b (Yo (Ym (Yh q) I.ok.above))).trans e1⟩
 .by_cases hj:j=i
  .subst hj;rw[Y1w hiσ]at e2;cases e2
  .rw[Y1L (YR hj)]at e2;obtain⟨u',r',q⟩:=hl j y v' e1 e2 e3;refine⟨u',r',?_⟩;rcases q with ⟨k,e⟩ | ⟨k,c,e,z⟩
   .refine .inl ⟨k,?_⟩
    have:y≠n:=λe=>hj (Yz3 hN e1 (e ▸ hi))
    simp[this,e]
   .exact .inr ⟨k,c,e,z.sameBut hs (cne y c e)⟩
 .obtain⟨w',z⟩:=I.cell y c q;exact⟨w',z.sameBut hs (cne y c q)⟩
 .obtain⟨q,n,ne,nf,d⟩:=I.pin p hp;exact⟨(hs.2 p.1 ne).trans q,n,ne,nf,d⟩
 .refine(I.hok b ob q).stay (λc w' hc q'=>(hs.2 c ?_).trans q') (λ_ q=>q) λ_ _ q=>q;rintro rfl;rcases hc with z | hc
  .subst z;rw[I.free]at q;cases q
  .rw[I.free]at hc;cases hc
end
abbrev Zk10(X:Cx)(pins:List (Addr × Obj))(R:St->XK):Cx:={ X with pn:=X.pn++pins,xe:=λev s'=>∃(σ:St) (H1:Hp) (s1:Shared),Inv X pins σ H1 s1/\CXW X.prog X.w X.stack H1 s1 (R σ) ev s' }
abbrev Zz212(X:Cx)(pins:List (Addr × Obj))(e:Addr)(oe:Obj):Cx:={ X with A:=X.A.mark (some (.ref e)),calm:=false,pn:=X.pn++pins++[(e,oe)],xe:=λ_ _=>False }
section
variable{X:Cx}{pins pins':List (Addr × Obj)}{σ:St}{H:Hp}{s:Shared}{R:St->XK}{e:Addr}{oe:Obj}
theorem Inv.inTry(I:Inv X pins σ H s):Inv (Zk10 X pins R) [] σ H s :=
 ⟨⟨I.ok.mod,I.ok.kind,I.ok.glob,I.ok.blt,I.ok.above,I.ok.inj,I.ok.has,I.ok.cab,I.ok.hd,I.ok.frames,I.ok.stk,I.ok.exf,I.ok.bs,I.ok.bsz,I.ok.noex,I.ok.exfs,I.ok.funs,I.ok.frf⟩,I.os,I.bare,I.base,I.loc,I.cell,I.free,I.freeC,λp hp=>I.pin p (by simpa using hp),I.hok,I.len⟩
theorem Inv.outTry(I:Inv (Zk10 X pins R) pins' σ H s):Inv X pins σ H s :=
 ⟨⟨I.ok.mod,I.ok.kind,I.ok.glob,I.ok.blt,I.ok.above,I.ok.inj,I.ok.has,I.ok.cab,I.ok.hd,I.ok.frames,I.ok.stk,I.ok.exf,I.ok.bs,I.ok.bsz,I.ok.noex,I.ok.exfs,I.ok.funs,I.ok.frf⟩,I.os,I.bare,I.base,I.loc,I.cell,I.free,I.freeC,λp hp=>I.pin p (Yg _ hp),I.hok,I.len⟩
theorem SP.outTry{f:Flow}(h:SP (Zk10 X pins R) [] D f s):SP X pins D f s:=by
 cases f with
 | next=>obtain⟨σ',H',I,q⟩:=h;exact⟨σ',H',I.outTry,q⟩
 | brk=>obtain⟨σ',H',I,q⟩:=h;exact⟨σ',H',I.outTry,q⟩
 | cont=>obtain⟨σ',H',I,q⟩:=h;exact⟨σ',H',I.outTry,q⟩
 | ret u=>obtain⟨v,σ',H',I,r,q⟩:=h;exact⟨v,σ',H',I.outTry,r,q⟩
theorem Inv.inHan(I:Inv X pins σ H s)(h1:s.heap.get? e=some oe)(h2:H e=none)(h3:e≠X.env.locals)(h4:e∉X.fs)(h5:∀ v,oe.data≠.cell v):Inv (Zz212 X pins e oe) [] σ H s :=
 ⟨⟨I.ok.mod,I.ok.kind,I.ok.glob,I.ok.blt,I.ok.above,I.ok.inj,I.ok.has,I.ok.cab,(λz=>(nomatch z)),I.ok.frames,I.ok.stk,I.ok.exf,I.ok.bs,I.ok.bsz,I.ok.noex,I.ok.exfs,I.ok.funs,I.ok.frf⟩,I.os,I.bare,I.base,I.loc,I.cell,I.free,I.freeC,λp hp=>by
  rw[YO]at hp;rcases Ya.mp hp with z | z
  .exact I.pin p z
  .rw[Yy1.mp z];exact⟨h1,h2,h3,h4,h5⟩,I.hok,I.len⟩
theorem Inv.outHan(hd:X.calm=true->X.A.handled=none)(fr:X.A.frames=some X.stack)(I:Inv (Zz212 X pins e oe) pins' σ H s):Inv X pins σ H s :=
 ⟨⟨I.ok.mod,I.ok.kind,I.ok.glob,I.ok.blt,I.ok.above,I.ok.inj,I.ok.has,I.ok.cab,hd,fr,I.ok.stk,I.ok.exf,I.ok.bs,I.ok.bsz,I.ok.noex,I.ok.exfs,I.ok.funs,I.ok.frf⟩,I.os,I.bare,I.base,I.loc,I.cell,I.free,I.freeC,λp hp=>I.pin p (Yg _ (Yg _ hp)),I.hok,I.len⟩
end
def ZY6(CX:CXT)(X:Cx)(R:St->XK):Prop:=∀(pins:List (Addr × Obj)) (σ:St) (H:Hp) (s:Shared) (e:Value) (s':Shared),Inv X pins σ H s->CX X.stack H s (R σ) e s'->X.xe e s'
theorem pxT{R:St->XK}(hP:P=X.prog:=by rfl)(hw:w=X.w:=by rfl):ZY6 (CXW P w) (Zk10 X pins R) R:=by subst hP hw;exact λ_ σ H s _ _ I h=>⟨σ,H,s,I.outTry,h⟩
def Zi12(sp:Sp)(dvs:List V)(R:St->XK)(t:TA):TE:=λσ H Q=>t σ H λvs H1=>sp (vs++dvs) H1 Q (R σ)
section
variable{X:Cx}{CX:CXT}{k:Nat}{f:Addr}{fd:FuncData}{ps:List Str}{sp:Sp}{dvs:List V}{ds:Ag}{R:St->XK}{x:Str}{p pos:Pos}{e:Expr}{es:List Expr}{t:TA}
theorem Zy10(F:FnOk X.prog X.w X.K X.mg X.base CX k f fd ps sp)(hr:Room k X.A)(hb:Binds X.K fd ps ds)(hd:Vals dvs ds)(hx:ZY6 CX X R)
  (I:Inv X pins σ H s) (r:Vals vs us) (h:sp (vs++dvs) H Q (R σ)):wpAny (model X.prog X.w) X.A (call (.ref f) us) (EP X pins σ Q) X.xe s:=by
 have r2:Vals (vs++dvs) (us++ds):=r.append hd;have hl:(us++ds).length=ps.length:=by rw[<- r2.length];exact F.len _ _ _ _ h
 refine Y3q (Y1l (F.run X.A X.stack s H ⟨us,[]⟩ (us++ds) (vs++dvs) Q (R σ) hr I.env0 (hb s us I.kIn hl) r2 h) λr s' hq=>?_);cases r with
 | error e=>exact hx pins σ H s e s' I hq
 | ok fl =>
  cases fl with
  | ret u=>exact I.after hq
  | next=>exact False.elim hq
  | brk=>exact False.elim hq
  | cont=>exact False.elim hq
theorem Zb9(F:FnOk X.prog X.w X.K X.mg X.base CX k f fd ps sp)(hr:Room k X.A)(hg:Gl X x)(hm:X.mg x=some (.ref f))(hk:PySem.W.keepIn X.K (.ref f)=true)(hb:Binds X.K fd ps ds)(hd:Vals dvs ds)(hx:ZY6 CX X R)
  (ha:PA X (e :: es) t) (hdb:(x == ("__debug__":Str))=false:=by decide) (he:starEach (e :: es) X.env=(false,eval e X.env) :: starEach es X.env:=by rfl) (hpl:(backTo pos (starEach es X.env)).any (·.1)=false:=by rfl) :
  PE X (.Call (.Name x p) (e :: es) [] pos) (Zi12 sp dvs R t):=by intro pins s σ H Q I h;refine Y0E (Zz73 I hg hm ?_ hdb);refine Y2u (h₀:=X.base) I.ok.mod.kin hk (thn (ha pos pins s σ H _ I h) λus s1 ⟨vs,H1,I1,r,q⟩=>⟨I1.kIn,?_⟩) he hpl;exact Zy10 F hr hb hd hx I1 r q
end
def Ends.less(D:Ends)(i:Nat):Ends:={ nx:=λσ H=>D.nx (σ.set i none) H,rt:=D.rt,bk:=λσ H=>D.bk (σ.set i none) H,ct:=λσ H=>D.ct (σ.set i none) H }
def tTry(K:Ad)(W:Addr)(i:Nat)(tb:(St->XK)->TS)(th:Addr->Addr->TS):TS:=λD σ H =>
 tb (λσ' c _ H'=>∃ C,c=Value.ref C/\PySem.W.exmOne K (.ref C) (.ref W)=some true/\∀ e:Addr,H' e=none->th e C (D.less i) (σ'.set i (some (.ref e))) H') D σ H
theorem Zu12{x n:Str}{np hpos pos:Pos}{b₀:Stmt}{suite:List Stmt}{tb:(St->XK)->TS}{th:Addr->Addr->TS}
  (hst:X.stack=X.env :: X.outer) (hfr:X.env.frame=some X.env.locals) (hex:X.ex=[]) (hN:X.N.Nodup) (hi:X.N[i]?=some n) (hl:X.env.kindOf n=some .local) (hm:X.mg x=some (.ref W)) (hg:Gl X x)
  (hb:∀(R:St->XK) (pins:List (Addr × Obj)),PSs (Zk10 X pins R) body (tb R)) (hs:∀(e C:Addr) (oe:Obj) (pins:List (Addr × Obj)),oe.cls=.ref C->PSs (Zz212 X pins e oe) (b₀ :: suite) (th e C)) (hdb:(x == ("__debug__":Str))=false:=by decide) :
  PS X (.Try body [.ExceptHandler (some (.Name x np)) (some n) (b₀ :: suite) hpos] [] [] pos) (tTry X.K W i tb th):=by
 intro pins s σ H D I h;refine wpAny_Try_except (Y0x (hb _ pins [] s σ H D I.inTry h) (λf s1 q=>?_) (λev s1 q=>?_))
 .have q:=SP.outTry q;cases f with
  | next=>exact Yy26 q
  | brk=>exact q
  | cont=>exact q
  | ret u=>exact q
 .obtain⟨σ1,H1,s0,I0,hcx⟩:=q;obtain⟨e,C,H',rfl,J,F,C',eC,hmt,hR⟩:=I0.flown hcx;cases eC;have hR:=hR e F.free
  obtain⟨T,a0,fl,nT,fT⟩:=Zq6 hst J F;have hns:∀ b∈[e,T],X.s₀.heap.get? b=none/\H' b=none/\(∀ p∈X.pn++pins,p.1≠b):=λb hb=>by
   have key:∀ b,s0.heap.get? b=none->H' b=none->X.s₀.heap.get? b=none/\H' b=none/\(∀ p∈X.pn++pins,p.1≠b):=λb n0 f0=>⟨I0.was hex n0,f0,λp hp z=>by
    have:=(I0.pin p hp).1
    rw[z,n0]at this;cases this⟩
   rcases Ye.mp hb with rfl | hb
   .exact key _ F.new F.free
   .rw[Yy1.mp hb];exact key _ nT fT
  rw[hst]at fl;refine wpAny_looks_onW (by rw[J.ok.frames,hst]) hfr fl λh₄ held₄ up₄=>?_;refine wpAny_landsW held₄ λh₅ fl₅ up₅'=>?_;have up₅:=up₄.trans up₅'
  have J₅:Inv X pins σ1 H' { s1 with heap:=h₅ }:=J.held (tk:=s1.toks) hns fl₅.1 up₅;obtain⟨ob,hob,hobc⟩:=fl₅.there;refine wpAny_handleBy_cons (codeAny_handlers_test (Yy28 J₅.ok.kind hg (Calls.loadGlobal_global (by rw[J₅.ok.glob];exact J₅.mod.glob.keeps J₅.bk) hm ?_) hdb)) (by intro q;cases q);have LT:PySem.W.Looks (model X.prog X.w) h₅ (typeOf (.ref e)) (.ref C):=by rw[<- hobc];exact(PySem.W.Looks.ld hob).andThen .now
  refine(PySem.W.exm_one J₅.kIn LT hmt).here ?_;refine codeAny_handlers_suite_as ?_;refine lands_againW fl₅ λh₆ fl₆ up₆=>?_;have J₆:Inv X pins σ1 H' { s1 with heap:=h₆ }:=J.held (tk:=s1.toks) hns fl₆.1 (up₅.trans up₆)
  obtain⟨oe,ws,hoe,hoec,hoed,hoe0⟩:=fl₆.first;have neL:e≠X.env.locals:=λz=>by
   obtain⟨m,⟨o',es,ep,ho',hd',_⟩,_⟩:=J₆.loc;rw[<- z]at ho';have hoe':h₆.get? e=some oe:=hoe
   have ho'':h₆.get? e=some o':=ho';rw[hoe']at ho'';cases ho'';rw[hoed]at hd';cases hd'
  have nfs:e∉X.fs:=λz=>by
   obtain⟨_,o',ho',hd⟩:=J₆.funs.mem z;have hoe':h₆.get? e=some oe:=hoe
   have ho'':h₆.get? e=some o':=ho';rw[hoe']at ho'';cases ho'';exact hd ws hoed
  refine ZZ3 J₆ hN hi (.inl hl) (v:=.ref e) rfl (λs7 J₇ hsb=>?_) (.inr hl);obtain⟨a,hsame,ha⟩:=hsb;have hea:e≠a:=by
   rcases ha with rfl | ha
   .exact neL
   .intro z;obtain⟨v,o',ho',hd'⟩:=J₆.cell _ _ ha;rw[<- z]at ho';have hoe':h₆.get? e=some oe:=hoe
    have ho'':h₆.get? e=some o':=ho';rw[hoe']at ho'';cases ho'';rw[hoed]at hd';cases hd'
  have hoe7:s7.heap.get? e=some oe:=(hsame.2 e hea).trans hoe;have JH:=J₇.inHan (oe:=oe) hoe7 F.free neL nfs (λv z=>by rw[hoed]at z;cases z)
  refine Y0x (hs e C oe pins hoec [] s7 _ H' (D.less i) JH hR) (λf s8 q=>?_) λ_ _ z=>False.elim z;have hp:(X.env.scope.kind == .class || (X.env.scope.kind == .module && X.env.locals != X.env.globals))=false:=by rw[J.ok.kind];rfl
  have fin:∀ {σ8:St} {H8:Hp},Inv (Zz212 X pins e oe) [] σ8 H8 s8->∀ {Q:Flow->Shared->Prop},(∀ s9,Inv X pins (σ8.set i none) H8 s9->Q f s9)->wpAny (model X.prog X.w) X.A (do bindName X.env n .none;unbindBehindTheSuite X.env n hpos) (λ_ s9=>Q f s9) X.xe s8:=λ{σ8 H8} J8 {Q} k=>by have J9:=J8.outHan I.ok.hd I.ok.frames;obtain⟨m,hn,_⟩:=id J9.loc;exact wpAny_nameGoes_keeps hl hn hp λh' v hn' hsm=>k _ (J9.gone hN hi hn hn' hsm)
  cases f with
  | next=>obtain⟨σ8,H8,J8,q⟩:=q;exact fin J8 λs9 J9=>⟨_,H8,J9,q⟩
  | brk=>obtain⟨σ8,H8,J8,q⟩:=q;exact fin J8 λs9 J9=>⟨_,H8,J9,q⟩
  | cont=>obtain⟨σ8,H8,J8,q⟩:=q;exact fin J8 λs9 J9=>⟨_,H8,J9,q⟩
  | ret u=>obtain⟨v,σ8,H8,J8,r,q⟩:=q;exact fin J8 λs9 J9=>⟨v,_,H8,J9,r,q⟩
end L2
namespace L2
open PySem PySem.Spec PyProof.Rows PySem.W PySem.Calls Builtin Builtin.ObjectAttr Builtin.Getset_descriptor
section
variable{prog:Program}{w:World}{A:Around}{E:Ae}{K:Ad}{x C:Addr}{ox:Obj}
theorem Za12 {R:Result->Shared->Prop} {s:Shared} {tp:Value} (X:K.In s.heap) (hx:s.heap.get? x=some ox) (hc:ox.cls=.ref C) (hm:mroIn K C (.type "object")=some true)
  (h:R (.ok (.ret (.ref C))) s):codeAny (model prog w) A (.call (.builtin "getset_descriptor.__get__") ⟨[.builtin "object.__class__",.ref x,tp],[]⟩) R s:=by
 obtain⟨hh,g,dr,t,os⟩:=s;have L0:Looks (model prog w) hh (typeOf (.ref x)) (.ref C):=by rw[<- hc];exact(Looks.ld hx).andThen .now
 have L1:=looks_mroIn (M:=model prog w) X hm;refine Y2H KF.slot_gs.plain KF.entry_gs (KF.slot_gs.check _ _ _ _ _ _ _ _ KF.type_class (KF.args_gs _ _ _) ?_);unfold Builtin.«getset_descriptor.__get__» descrGet;rw[dga_obj];refine Yy0 (Yf ?_);unfold descrGetter descrCheckInstance descrNameAndClass isInstance;simp only [KF.owner_class]
 repeat lk
 refine⟨Y1G _ (by decide +kernel),Yy01 KF.entry_class ?_⟩;unfold Builtin.«object.__class__» shownTypeOf
 repeat lk
 exact h
theorem ZG8{tk:Tok}{Q:Fin->Shared->Prop}(X:K.In s.heap)(hx:s.heap.get? x=some ox)(hc:ox.cls=.ref C)(c:XCls K C)(hq:Q (.done (.ret (.ref C))) s) :
  wpAny (model prog w) A (Builtin.«object.__getattribute__» ⟨[.ref x,.str "__class__" tk],[]⟩) Q E s:=by
 obtain⟨hh,g,dr,t,os⟩:=s;have L0:Looks (model prog w) hh (typeOf (.ref x)) (.ref C):=by rw[<- hc];exact(Looks.ld hx).andThen .now
 have L1:=looks_findIn (M:=model prog w) X c.cl;have hT5:(⟨hh,g,dr,t,os⟩:Shared).TypeIs (.builtin "object.__class__") "getset_descriptor":=F.typeOf_object_class
 have f5:=F.typeOf_object_class;have f6:=F.slot_gs_get.lookup
 have f7:=F.slot_gs_set.lookup
 repeat (any_goals (first | assumption | (with_reducible refine L0.at ?_) | (with_reducible refine L1.at ?_) | wp_step))
 refine Za12 (s:=⟨hh,g,dr,t,os⟩) X hx hc c.ob ?_;exact Yf hq
theorem ZH8{nameV:Value}{Q:Unit->Shared->Prop}{s:Shared}(X:K.In s.heap)(hx:s.heap.get? x=some ox)(hc:ox.cls=.ref C)(c:XCls K C)(hq:Q () s) :
  wpAny M A (checkBuiltinCall "BaseException.__getattribute__" ⟨[.ref x,nameV],[]⟩) Q E s:=by
 obtain⟨hh,g,dr,t,os⟩:=s;have hk:builtinKind "BaseException.__getattribute__"=some .slot:=by decide +kernel
 have hsplit:splitId "BaseException.__getattribute__"=some ("BaseException","__getattribute__"):=by decide +kernel
 have ha:=PySem.F.args_bexc_ga (.ref x) nameV;have L0:Looks M hh (typeOf (.ref x)) (.ref C):=by rw[<- hc];exact(Looks.ld hx).andThen .now
 have L1:=looks_mroIn (M:=M) X c.bx;simp only [checkBuiltinCall,hk,hsplit];refine Yy0 ?_;refine Yy0 (L0.at (L1.at ?_))
 repeat (any_goals (first | assumption | wp_step))
theorem Zc10{tk:Tok}{R:Result->Shared->Prop}{s:Shared}(X:K.In s.heap)(hx:s.heap.get? x=some ox)(hc:ox.cls=.ref C)(c:XCls K C)(hq:R (.ok (.ret (.ref C))) s) :
  codeAny (model prog w) A (.call (.builtin "BaseException.__getattribute__") ⟨[.ref x,.str "__class__" tk],[]⟩) R s :=
 Y2H Y3m.ga.plain PySem.F.entry_bexc_ga (ZH8 X hx hc c (ZG8 X hx hc c hq))
theorem Zh13{tk:Tok}{Q:Ae}{s:Shared}(X:K.In s.heap)(hx:s.heap.get? x=some ox)(hc:ox.cls=.ref C)(c:XCls K C)(hq:Q (.ref C) s) :
  wpAny (model prog w) A (getAttrBy (.ref x) (.str "__class__" tk) false) Q E s:=by
 obtain⟨hh,g,dr,t,os⟩:=s;have f3:=Y3m.ga.bind (.ref x)
 have hx2:(Value.builtin "BaseException.__getattribute__" == Value.builtin "object.__getattribute__")=false:=by decide +kernel
 have hx1:(onTheHeap (Value.ref C) && Value.builtin "BaseException.__getattribute__" == Value.builtin "object.__getattribute__")=false:=by rw [hx2];rfl
 have L0:Looks (model prog w) hh (typeOf (.ref x)) (.ref C):=by rw[<- hc];exact(Looks.ld hx).andThen .now
 have L1:=looks_findIn (M:=model prog w) X c.ga;have L2:=looks_findIn (M:=model prog w) X c.gh
 repeat (any_goals (first | assumption | (with_reducible refine L0.at ?_) | (with_reducible refine L1.at ?_) | (with_reducible refine L2.at ?_) | wp_step))
 refine Zc10 (s:=⟨hh,g,dr,t,os⟩) X hx hc c ?_
 repeat (any_goals (first | assumption | wp_step))
theorem Zd10{Q:Option Value->Shared->Prop}{s:Shared}(X:K.In s.heap)(hx:s.heap.get? x=some ox)(hc:ox.cls=.ref C)(c:XCls K C)(hq:Q (some (.ref C)) { s with toks:=s.toks+1 }) :
  wpAny (model prog w) A (getAttr? (.ref x) "__class__") Q E s:=by
 obtain⟨hh,g,dr,t,os⟩:=s;unfold getAttr? getAttrBy?
 repeat (any_goals (first | assumption | with_reducible refine Zh13 (s:=⟨hh,g,dr,_,os⟩) X hx hc c ?_ | wp_step))
theorem Zv9(c:XCls K C)(hcl:(clsIn K C).isSome=true)(hc:ox.cls=.ref C):KitX K (.ref x) (.ref C) (λh=>h.get? x=some ox) where
 ty:=λ_ _ _ hx=>by rw[<- hc];exact(Looks.ld hx).andThen .now
 it:=λ_ _ X _=>by
  unfold clsIn at hcl;split at hcl
  .rename_i c' d' cd' sl' ho;intro A' Q' E' s' k q;unfold isType loadHead;exact Yy0 (wpAny_loadPart (k _ _ (X _ _ ho)) (Yf q))
  .cases hcl
 ne:=λh tp dd its n sl X htp=>by
  refine Bool.eq_false_iff.mpr λq=>?_;have e:C=tp:=Value.ref.inj (Y0X.mp q)
  subst e;unfold clsIn at hcl;split at hcl
  .rename_i c' d' cd' sl' ho
   have:=X _ _ ho
   rw[htp]at this;cases this
  .cases hcl
 ca:=λ{_ _ _ _ _ s} X hx hq=>Zd10 X hx hc c hq
end
theorem XCls.isSome{K:Ad}{C:Addr}(c:XCls K C):(clsIn K C).isSome=true:=by
 have q:=c.ex;unfold excIn at q;unfold clsIn;split at q
 .rename_i dd cd sl ho;rw[ho];rfl
 .cases q
section
variable{X:Cx}
theorem Zm1 (K:Ad) {e C:Addr} {oe:Obj} (hp:(e,oe)∈X.pn) (hc:oe.cls=.ref C) (h:X.K=K:=by rfl):Zg2 X (.builtin "isinstance") (λxs H Q=>∃(d:V) (u:Value) (b:Bool),xs=[.ref e,d]/\(∀ z,RelV d z->z=u)/\XCls K C/\kitOne K (.ref C) u=some b/\Q (.bl b) H):=by
 subst h;intro pins s σ H xs us Q I r h;obtain⟨d,u,b,rfl,hd,c,hk,q⟩:=h;obtain⟨u1,v,rfl,ru,rv⟩:=Zb5 r;obtain rfl:u1=Value.ref e:=ru;obtain rfl:=hd v rv;have hx:=(I.pin (e,oe) (Yg _ hp)).1
 exact kia_one (Zv9 c c.isSome hc) I.kIn hx hk (λz=>nomatch z) λtk=>⟨.bl b,H,I.tok tk,rfl,q⟩
end
end L2
namespace L2
open PySem PySem.Spec PyProof.Rows
theorem Zj7{a:Int}(h1:-(10 ^ 70)<a)(h2:a<10 ^ 70):a.natAbs.log2<1920:=by
 have h:a.natAbs<10 ^ 70:=by omega
 by_cases h0:a.natAbs=0
 .rw[h0];decide
 .exact(Nat.log2_lt h0).mpr (Nat.lt_trans h (by decide))
def PJ(X:Cx)(es:List Expr)(t:St->Hp->(Hp->Prop)->Prop):Prop:=∀(n:Nat) (pins:List (Addr × Obj)) (s:Shared) (σ:St) (H:Hp) (acc:Str) (Q:Hp->Prop),acc.length<=4000 * n->n+es.length<=100->Inv X pins σ H s->t σ H Q ->
 wpAny (model X.prog X.w) X.A (joinParts acc (evalEach es X.env)) (λv s'=>∃ x tk H',v=Value.str x tk/\Inv X pins σ H' s'/\Q H') X.xe s
section
variable{X:Cx}{es:List Expr}{e:Expr}{te:TE}{t:St->Hp->(Hp->Prop)->Prop}{pos:Pos}
theorem ZM12:4000 * 100<=sizeLine:=by decide
theorem Yz12:PJ X [] (λ_ H Q=>Q H):=λn pins s σ H acc Q ha hn I h=>by refine joinParts_nil ⟨acc,_,H,rfl,I.tok _,h⟩ (YD ha (YD (Y2r _ ?_) ZM12));simpa using hn
theorem Zy12{x:Str}{j:Nat}{p:Pos}(hr:PJ X es t)(hz:x.length<=4000:=by decide +kernel):PJ X (.Constant (.str x) j p :: es) t:=λn pins s σ H acc Q ha hn I h=>by
 have hl:(acc++x).length=acc.length+x.length:=strLen_append ..;rw[Yz]at hn;have hb:(acc++x).length<=4000 * (n+1):=by rw[hl];lia
 refine joinParts_cons (Calls.Constant_str ⟨YD hb (YD (Y2r _ (by lia)) ZM12),?_⟩);exact hr (n+1) pins _ σ H _ Q hb (by lia) (I.tok _) h
def jInt(te:TE)(t:St->Hp->(Hp->Prop)->Prop):St->Hp->(Hp->Prop)->Prop:=λσ H Q=>te σ H λv H1=>∃ a:Int,v=.int a/\-(10 ^ 70)<a/\a<10 ^ 70/\t σ H1 Q
theorem ZA12(he:PE X e te)(hr:PJ X es t):PJ X (.FormattedValue e (-1) none p :: es) (jInt te t):=λn pins s σ H acc Q ha hn I h=>by
 rw[Yz]at hn;refine joinParts_cons (FormattedValue_plain (thn (he pins s σ H _ I h) λu s1 hz0=>?_));obtain⟨v,H1,I1,r,a,ev,a1,a2,q⟩:=hz0;subst ev;obtain⟨tk,rfl⟩:=r;have hlog:=Zj7 a1 a2
 have hlen:(Str.ofString (toString a)).length<=4000:=by have z:=int_text_length_le (k:=1920) (by decide) hlog;rw[PySem.ofString_length];lia
 refine formatField_int_small hlog ?_;have hl:(acc++Str.ofString (toString a)).length=acc.length+(Str.ofString (toString a)).length:=strLen_append ..
 have hb:(acc++Str.ofString (toString a)).length<=4000 * (n+1):=by rw[hl];lia
 refine⟨YD hb (YD (Y2r _ (by lia)) ZM12),?_⟩;exact hr (n+1) pins _ σ H1 _ Q hb (by lia) (I1.tok _) q
def Zm13(t:St->Hp->(Hp->Prop)->Prop):TE:=λσ H Q=>t σ H λH'=>∀ x:Str,Q (.str x) H'
theorem ZQ10{v₁ v₂:Expr}{rest:List Expr}(h:PJ X (v₁ :: v₂ :: rest) t)(hn:(v₁ :: v₂ :: rest).length<=100:=by decide):PE X (.JoinedStr (v₁ :: v₂ :: rest) pos) (Zm13 t):=λpins s σ H Q I hq =>
 JoinedStr_many (thn (h 0 pins s σ H Str.empty _ (by decide) (by simpa using hn) I hq) λu s1 ⟨x,tk,H1,eu,I1,q⟩=>by subst eu;exact⟨.str x,H1,I1,⟨tk,rfl⟩,q x⟩)
end
theorem Za13:ZR3 (CXW P w) X E0:=λ_ _ _ _ _ _ _ h=>by obtain⟨_,_,_,_,_,_,_,_,_,z⟩:=h;exact z.elim
end L2
namespace My
open PySem L2
def cutI(ns:Ac)(lo hi:Option Int):Ac:=(ns.drop (HT.sIx ns.length 0 lo)).take (HT.sIx ns.length ns.length hi - HT.sIx ns.length 0 lo)
theorem ZJ6(ns:Ac)(lo hi:Option Int):cutV (IL ns) lo hi=IL (cutI ns lo hi):=by unfold cutV cutI;rw[Zi8,Zr11,Zz5]
theorem ZV9(ns:Ac)(lo hi:Option Int):(cutI ns lo hi).length<=ns.length:=by unfold cutI;rw[YI,Y1g];lia
theorem xI{α:Type}{p:α->Prop}{w:α}(h:p w):∃ x,p x:=⟨w,h⟩
end My
namespace L2
open PySem PySem.Spec PyProof.Rows
theorem Za1:∀ {us:Ag} {ns:Ac},IntsAre us ns->Vals (ns.map V.int) us
 | [],[],_=>.nil
 | _ :: _,[],h=>by cases h
 | [],_ :: _,h=>by cases h
 | u :: us,n :: ns,h=>by
  cases h with
  | cons _ _ t=>exact .cons ⟨_,rfl⟩ (Za1 t)
section
variable{X:Cx}
theorem ZN3 (K:Ad) (hk:X.K=K:=by rfl):Zg2 X (.builtin "sorted") (λxs H Q=>∃(p:Addr) (ns:Ac),xs=[.ref p]/\SqL K H p (ns.map V.int)/\ns.length<64 /\
  ∀ ms:Ac,ms.Perm ns->ms.Pairwise (·<=·)->∀ l,H l=none->Q (.ref l) (upd H l (.lst (ms.map V.int)))):=by
 subst hk;intro pins s σ H xs us Q I r h;obtain⟨p,ns,rfl,hq,hn,q⟩:=h;obtain⟨u,rfl,ru⟩:=Zk3 r;obtain rfl:u=Value.ref p:=ru;obtain⟨its,rv,pl,hz⟩:=I.list hq;have hi:=ZA rv
 have hl:its.length=ns.length:=by rw[<- rv.length,Yc]
 refine sorted_ints pl.isList hi (by lia) λout ms h1 h2 h3=>?_;obtain⟨e,he⟩:=sortedAll_at s.heap its out;have hml:ms.length=ns.length:=h2.length_eq
 refine⟨.ref (s.heap.objs.size+1),_,I.laid (t':=s.toks) (o:=.lst (ms.map V.int)) (λb o g=>sortedAll_old g) (Y0P _) ⟨?_,out.toList,e,Za1 h1,?_⟩,rfl,q ms h2 h3 _ (I.hok.fresh (Y0P _))⟩
 .rw[Yc,hml]
  have:sizeLine=16777216:=Y0W
  lia
 .exact he
end
end L2
namespace My
open PySem L2
theorem isSet_iff:IsSet m ns↔(∀ z∈ns,0<=z/\z<(m:Int))/\ns.Pairwise (· < ·):=by
 constructor
 .intro h;refine⟨h.all,?_⟩;rw[Yy07];intro i j hi hj hij
  induction j with
  | zero=>exact absurd hij (Yy02 i)
  | succ j ih =>
   have hj':j<ns.length:=by grind
   have key:=(h (j+1) ns[j+1] (Yy2 hj)).2.2 ns[j] (by lia) (by rw[Y2w];exact Yy2 hj');by_cases e:i=j
   .subst e;exact key
   .have:=ih hj' (by lia)
    lia
 .rintro⟨ha,hp⟩ i z hz;obtain⟨hi,ei⟩:=Yy3.mp hz;have hm:=ha z (Yy8 hz)
  refine⟨hm.1,hm.2,λy h0 hy=>?_⟩;obtain⟨hi',ei'⟩:=Yy3.mp hy
  have:=Yy07.mp hp (i - 1) i hi' hi (by lia)
  rwa[ei,ei']at this
theorem Zz16{ns:Ac}(h:ns.Pairwise (· < ·)):ns.Nodup:=h.imp λhab e=>by lia
theorem IsSet.nodup(h:IsSet m ns):ns.Nodup:=Zz16 (isSet_iff.mp h).2
theorem ZH7{i:Int}(h0:0<=i)(h1:i<=(ns.length:Int)):cutI ns (some i) none=ns.drop i.toNat:=by
 unfold cutI;have e:HT.sIx ns.length 0 (some i)=i.toNat:=by show(if i<0 then (i+(ns.length:Int)).toNat else min i.toNat ns.length)=i.toNat;rw[if_neg (by omega)];omega
 rw[HT.sIx_none,e];exact Yy08 (by rw[Y1g];exact Yy6 _)
end My
namespace My
theorem ZR{α:Type}{P:List α->Prop}(h0:P [])(h1:∀ l x,P l->P (l++[x])):∀ l,P l:=by
 intro l;rw[<- List.reverse_reverse l]
 induction l.reverse with
 | nil=>exact h0
 | cons x r ih =>
  rw[List.reverse_cons];exact h1 _ _ ih
inductive Conn (es:List (Nat × Nat)):Nat->Nat->Prop
 | refl (i:Nat):Conn es i i
 | edge {a b:Nat} (h:(a,b)∈es):Conn es a b
 | symm {i j:Nat}:Conn es i j->Conn es j i
 | trans {i j k:Nat}:Conn es i j->Conn es j k->Conn es i k
theorem Conn.mono(h:∀ e∈es,e∈fs)(c:Conn es i j):Conn fs i j:=by
 induction c with
 | refl i=>exact .refl i
 | edge q=>exact .edge (h _ q)
 | symm _ ih=>exact .symm ih
 | trans _ _ i1 i2=>exact .trans i1 i2
theorem Yz1{n i:Nat}(h:i<n):mk ((List.range n).map λ(i:Nat)=>(i:Int)) i=(i:Int):=by rw[mk_map' h]
where
 mk_map' {n i:Nat} (h:i<n):mk ((List.range n).map λ(i:Nat)=>(i:Int)) i=(i:Int):=by simp[mk,Yy7,Yp,Y0t h]
def InN(n:Nat)(es:List (Nat × Nat)):Prop:=∀ e∈es,e.1<n/\e.2<n
theorem InN.snoc{e:Nat × Nat}(h:InN n (es++[e])):InN n es/\e.1<n/\e.2<n:=⟨λx hx=>h x (Yg _ hx),h e (by simp)⟩
theorem Zp9:∀ es:List (Nat × Nat),InN n es->∀ e∈es,mk (lms n es) e.1=mk (lms n es) e.2:=by
 refine ZR (λ_ e h=>by cases h) λes x ih hn e he=>?_;obtain⟨h1,h2,h3⟩:=hn.snoc;have hl:=Zv n es
 have hx:=hn e he;rw[ZZ];refine(Zz36 (by lia) (by lia)).mpr ?_;rcases Ya.mp he with q | q
 .exact .inl (ih h1 e q)
 .rw[Yy1.mp q];exact .inr ⟨.inl rfl,.inr rfl⟩
theorem Zq9:∀ es:List (Nat × Nat),InN n es->∀ i j,i<n->j<n->mk (lms n es) i=mk (lms n es) j->Conn es i j:=by
 refine ZR (λ_ i j hi hj h=>?_) λes x ih hn i j hi hj h=>?_
 .have h:mk ((List.range n).map λ(i:Nat)=>(i:Int)) i=mk ((List.range n).map λ(i:Nat)=>(i:Int)) j:=h;rw[Yz1 hi,Yz1 hj]at h
  have:i=j:=by lia
  subst this;exact .refl i
 .obtain⟨h1,h2,h3⟩:=hn.snoc;have hl:=Zv n es
  have up:∀ {i j:Nat},Conn es i j->Conn (es++[x]) i j:=λc=>c.mono λe he=>Yg _ he;have ex:Conn (es++[x]) x.1 x.2:=.edge (by simp)
  rw[ZZ]at h;rcases(Zz36 (by lia) (by lia)).mp h with q | ⟨q1,q2⟩
  .exact up (ih h1 i j hi hj q)
  .have ci:Conn (es++[x]) i x.1:=by
    rcases q1 with q | q
    .exact up (ih h1 i _ hi h2 q)
    .exact(up (ih h1 i _ hi h3 q)).trans ex.symm
   have cj:Conn (es++[x]) j x.1:=by
    rcases q2 with q | q
    .exact up (ih h1 j _ hj h2 q)
    .exact(up (ih h1 j _ hj h3 q)).trans ex.symm
   exact ci.trans cj.symm
theorem ZY9(hn:InN n es)(c:Conn es i j):i=j\/(i<n/\j<n/\mk (lms n es) i=mk (lms n es) j):=by
 induction c with
 | refl i=>exact .inl rfl
 | edge q=>exact .inr ⟨(hn _ q).1,(hn _ q).2,Zp9 es hn _ q⟩
 | symm _ ih =>
  rcases ih with e | ⟨a,b,c⟩
  .exact .inl e.symm
  .exact .inr ⟨b,a,c.symm⟩
 | trans _ _ i1 i2 =>
  rcases i1 with e | ⟨a,b,c⟩
  .rw[e];exact i2
  .rcases i2 with e | ⟨a',b',c'⟩
   .rw[<- e];exact .inr ⟨a,b,c⟩
   .exact .inr ⟨a,b',c.trans c'⟩
theorem ZM(hn:InN n es)(hi:i<n)(hj:j<n):mk (lms n es) i=mk (lms n es) j↔Conn es i j:=by
 constructor
 .exact Zq9 es hn i j hi hj
 .intro c;rcases ZY9 hn c with e | ⟨_,_,e⟩
  .rw[e]
  .exact e
theorem Zz03(hn:InN n es)(hi:i<n)(hj:j<n):mk (pms n es) i=mk (pms n es) j↔Conn es i j:=by
 rw[<- ZM hn hi hj];have s:=Zy5 (n:=n) (es:=es) hn
 exact s.2 i j (by rwa[Zo]) (by rwa[Zo])
def cnt(M:Ac):Nat:=(fstA M M.length).length
theorem Zy7(M:Ac):∃ p,p<=i/\mk M p=mk M i/\fstB M p=true:=by
 induction i using Nat.strongRecOn with
 | ind i ih =>
  by_cases h:fstB M i=true
  .exact⟨i,Yy6 _,rfl,h⟩
  .have:∃ j,j<i/\mk M j=mk M i:=by
    by_cases q:∃ j,j<i/\mk M j=mk M i
    .exact q
    .exact absurd (fstB_iff.mpr λj hj e=>q ⟨j,hj,e⟩) h
   obtain⟨j,hj,e⟩:=this;obtain⟨p,h1,h2,h3⟩:=ih j hj;exact⟨p,by lia,h2.trans e,h3⟩
theorem ZK6{p q:Nat->Bool}{x n:Nat}(hx:x<n)(hpx:p x=true)(h:∀ y,y<n->q y=(p y && !decide (y=x))):((List.range n).filter q).length+1=((List.range n).filter p).length:=by
 induction n with
 | zero=>exact absurd hx (Yy02 x)
 | succ n ih =>
  rw[Y0L,Yy04,Yy04,Yy5,Yy5];by_cases e:x=n
  .subst e;have e1:(List.range x).filter q=(List.range x).filter p:=List.filter_congr λy hy=>by have hy:=YG.mp hy;rw[h y (by lia),show decide (y=x)=false from YT (by lia)];simp
   have e2:q x=false:=by rw[h x (by lia)];simp
   rw[e1];simp[Y0B,e2,hpx]
  .have hq:q n=p n:=by rw[h n (by lia),show decide (n=x)=false from YT (λz=>e z.symm)];simp
   have:=ih (by lia) λy hy=>h y (by lia)
   simp only [Y0B,Yy13,hq];lia
theorem ZG2(hp:fstB M p=true)(hq:fstB M q=true)(e:mk M p=mk M q):p=q:=by
 rcases Nat.lt_trichotomy p q with h | h | h
 .exact absurd e (fstB_iff.mp hq p h)
 .exact h
 .exact absurd e.symm (fstB_iff.mp hp q h)
theorem ZI2(ha:a<m.length)(hb:b<m.length)(hne:mk m a≠mk m b):cnt (lm m a b)+1=cnt m:=by
 obtain⟨A,hA1,hA2,hA3⟩:=Zy7 m (i:=a);obtain⟨B,hB1,hB2,hB3⟩:=Zy7 m (i:=b);have hAB:A≠B:=λe=>hne (by rw[<- hA2,<- hB2,e])
 unfold cnt fstA;rw[ZN1];refine ZK6 (x:=max A B) (by grind) ?_ λy hy=>?_
 .rcases Nat.le_total A B with h | h
  .rw[Nat.max_eq_right h];exact hB3
  .rw[Nat.max_eq_left h];exact hA3
 .rw[Y0M,Y0r,fstB_iff,fstB_iff];have key:∀ i,i<y->(mk (lm m a b) i=mk (lm m a b) y↔Mrg m a b i y):=λi hi=>Zz36 (by lia) hy
  have nmax:(!decide (y=max A B))=true↔y≠max A B:=by simp
  rw[nmax];constructor
  .intro q;refine⟨λi hi e=>q i hi ((key i hi).mpr (.inl e)),λe=>?_⟩;rcases Nat.lt_or_gt_of_ne hAB with h | h
   .have ey:y=B:=by lia
    subst ey;exact q A h ((key A h).mpr (.inr ⟨.inl hA2,.inr hB2⟩))
   .have ey:y=A:=by grind
    subst ey;exact q B h ((key B h).mpr (.inr ⟨.inr hB2,.inl hA2⟩))
  .rintro⟨q1,q2⟩ i hi e;rcases(key i hi).mp e with e | ⟨e1,e2⟩
   .exact q1 i hi e
   .have fy:fstB m y=true:=fstB_iff.mpr q1;rcases e2 with e2 | e2
    .have ey:y=A:=ZG2 fy hA3 (e2.trans hA2.symm);rcases e1 with e1 | e1
     .exact q1 i hi (e1.trans e2.symm)
     .obtain⟨p,p1,p2,p3⟩:=Zy7 m (i:=i)
      have:p=B:=ZG2 p3 hB3 (by rw[p2,e1,hB2])
      grind
    .have ey:y=B:=ZG2 fy hB3 (e2.trans hB2.symm);rcases e1 with e1 | e1
     .obtain⟨p,p1,p2,p3⟩:=Zy7 m (i:=i)
      have:p=A:=ZG2 p3 hA3 (by rw[p2,e1,hA2])
      grind
     .exact q1 i hi (e1.trans e2.symm)
theorem ZJ2(n:Nat):cnt ((List.range n).map λ(i:Nat)=>(i:Int))=n:=by
 unfold cnt fstA;rw[Yc,YK];have e:(List.range n).filter (fstB ((List.range n).map λ(i:Nat)=>(i:Int)))=List.range n:=by
  refine Y1R.mpr λp hp=>fstB_iff.mpr λi hi e=>?_;have hp:=YG.mp hp
  rw[Yz1 (by lia),Yz1 hp]at e;lia
 rw[e,YK]
theorem ZP11(hM:1<=M.length):cnt M=1↔∀ i j,i<M.length->j<M.length->mk M i=mk M j:=by
 have e:cnt M=(grp M).length:=by unfold cnt grp;rw[Zn8,Yc]
 rw[e];exact Zm8 hM
end My
namespace My
open PySem L2
theorem Zn12{i:Int}{n:Nat}(h0:0<=i)(h1:i<(n:Int)):seqIndex? i n=some i.toNat:=by have e:(if i<0 then i+(n:Int) else i)=i:=if_neg (by lia);unfold seqIndex?;simp only [e];rw[if_pos (by simp;lia)]
def Zf(n:Int)(ps:Aa)(ns:Ac):Prop:=IsSet ps.length ns/\(ns.length:Int)=n - 1/\∀ i j,i<n.toNat->j<n.toNat->Conn (Zz7 ps ns) i j
theorem ZT(g:Zy n ps)(h:∀ z∈ns,0<=z/\z<(ps.length:Int)):InN n.toNat (Zz7 ps ns):=λe he=>by
 obtain⟨z,hz,rfl⟩:=Yx.mp he;obtain⟨z0,z1⟩:=h z hz;have hp:ps[z.toNat]?=some (ps[z.toNat]'(by lia)):=Yy2 _
 rw[getD_of hp];obtain⟨b1,b2,b3,b4⟩:=g.2.2.2 _ (Yy8 hp);exact⟨by lia,by lia⟩
theorem Zt(h:∀ z∈ns,z∈ms):∀ e∈Zz7 ps ns,e∈Zz7 ps ms:=λe he=>by obtain⟨z,hz,rfl⟩:=Yx.mp he;exact Yx.mpr ⟨z,h z hz,rfl⟩
theorem ZN5(h:InN n es):(∀ i j,i<(lms n es).length->j<(lms n es).length->mk (lms n es) i=mk (lms n es) j)↔∀ i j,i<n->j<n->Conn es i j:=by
 rw[Zv];constructor
 .intro q i j hi hj;exact(ZM h hi hj).mp (q i j hi hj)
 .intro q i j hi hj;exact(ZM h hi hj).mpr (q i j hi hj)
theorem Zc6(hn:1<=n)(h:InN n es):(grp (pms n es)).length=1↔∀ i j,i<n->j<n->Conn es i j:=by rw[Zm8 (by rwa[Zo]),(Zy5 h).one];exact ZN5 h
theorem Zc1(h:∀ z,z∈ns↔z∈ms):Conn (Zz7 ps ns) i j↔Conn (Zz7 ps ms) i j :=
 ⟨λc=>c.mono (Zt λz hz=>(h z).mp hz),λc=>c.mono (Zt λz hz=>(h z).mpr hz)⟩
section
variable{K:Ad}{a:Addr}{xs:List V}{g:TG}{tt:TT}{te:TE}{o:Nat}{fr:List Nat}{σ:St}{H:Hp}{Q:VK}
theorem Zb8(Pv:Nat->List V->Hp->Prop)(h0:Pv 0 [] H)(hz:xs.length<sizeLine)(hl:∀ i ys H,i<=xs.length->Pv i ys H->SqL K H a xs/\ys.length<=i)
  (hs:∀(i:Nat) x ys H (p:Addr),H p=none->xs[i]?=some x->Pv i ys H->ZS3 Pv g tt te o fr σ i (.ref p) ys (upd H p (.tup [.int i,x]))) (hd:∀ ys H,Pv xs.length ys H->∀ p,H p=none->Q (.ref p) (upd H p (.lst ys))):LcR (Ite K a) g tt te o fr σ H Q:=by
 refine⟨λi m ys H=>m=xs.length - i/\i<=xs.length/\Pv i ys H,⟨xs.length,by simp,Yl _,h0⟩,?_⟩;rintro i m ys H ⟨rfl,hi,p⟩;obtain⟨q,hy⟩:=hl i ys H hi p;by_cases hlt:i<xs.length
 .refine .inr ⟨⟨xs,xs[i],q,by simp[hlt]⟩,by lia,λx H' ⟨T,y,hT,ex,eH,hyy⟩=>?_⟩;subst ex eH;exact hs i y ys H T hT (hyy xs q) p (λj ys H=>∃ m',m'<xs.length - i/\m'=xs.length - j/\j<=xs.length/\Pv j ys H) λys H p'=>⟨xs.length - (i+1),by grind,rfl,hlt,p'⟩
 .have e:i=xs.length:=by lia
  subst e;exact .inl ⟨⟨xs,q,Yy6 _⟩,by lia,hd ys H p⟩
end
def unlike(M:Ac)(ps:Aa)(i:Nat):Ac:=((List.range i).filter λk=>decide (mk M (ps.getD k (0,0)).1.toNat≠mk M (ps.getD k (0,0)).2.toNat)).map λ(k:Nat)=>(k:Int)
def wo(ns:Ac)(z:Int):Ac:=ns.filter λy=>decide (y≠z)
theorem wo_mem{z y:Int}:y∈wo ns z↔y∈ns/\y≠z:=by unfold wo;rw[Yn];simp
def Zr12(n:Int)(ps:Aa)(ns:Ac)(z:Int)(l:Ac):Ac:=l.filter λy=>decide (z∈unlike (lms n.toNat (Zz7 ps (wo ns y))) ps ps.length)
theorem Zf5{z:Int}(h0:0<=z)(h1:z<(ps.length:Int)):z∈unlike M ps ps.length↔mk M (ps.getD z.toNat (0,0)).1.toNat≠mk M (ps.getD z.toNat (0,0)).2.toNat:=by
 unfold unlike;rw[Yx];constructor
 .rintro⟨k,hk,rfl⟩
  have:=Yy (Yn.mp hk).2
  rwa[Yw]
 .intro h;exact⟨z.toNat,Yn.mpr ⟨YG.mpr (by grind),Yt h⟩,by lia⟩
theorem ZN4{a b:Ac}(h:a.Perm b)(h1:a.Pairwise (·<=·))(h2:b.Pairwise (·<=·)):a=b:=by
 induction a generalizing b with
 | nil=>exact(List.Perm.nil_eq h)
 | cons x a ih =>
  cases b with
  | nil=>exact absurd h.length_eq (by simp)
  | cons y b =>
   obtain⟨hx,ha⟩:=Yy03.mp h1;obtain⟨hy,hb⟩:=Yy03.mp h2;have e:x=y:=by
    have m1:y∈x :: a:=h.mem_iff.mpr Yk;have m2:x∈y :: b:=h.mem_iff.mp Yk
    rcases Ye.mp m1 with e1 | e1
    .exact e1.symm
    .rcases Ye.mp m2 with e2 | e2
     .exact e2
     .have:=hx y e1;have:=hy x e2;lia
   subst e;rw[ih (List.Perm.cons_inv h) ha hb]
end My
namespace L2
open PySem PySem.Spec PyProof.Rows
section
variable{prog:Program}{w:World}{A:Around}{E:Ae}{s:Shared}
theorem Zz35 {tp:Addr} {vs:Ag} {Q:List Value->Shared->Prop} {ot:Obj} (ht:s.heap.get? tp=some ot) (hc:ot.cls=.type "tuple") (hd:ot.data=.seq vs.toArray m) (hz:vs.length<=sizeLine)
  (k:Q vs { s with heap:=(s.heap.push (seqObj "list" #[] 0)).update s.heap.objs.size (Obj.mapSeq (·++vs.toArray)) }):wpAny (model prog w) A (collect (.ref tp)) Q E s:=by
 have ht1:(s.heap.push (seqObj "list" #[] 0)).get? tp=some ot:=Yy4 _ ht;have hL1:(s.heap.push (seqObj "list" #[] 0)).get? s.heap.objs.size=some (seqObj "list" #[] 0):=Yj _ rfl
 unfold collect;refine Yy0 (Y2O (Yy01 Y3k ?_));show wpAny _ _ (do again (.builtin "list.__iadd__" ⟨[<- newList [],.ref tp],[]⟩)) _ _ s
 refine Yy0 (Yy23 (Yf ⟨Y1G _ (by decide +kernel),Yy01 entry_list_iadd' ?_⟩));show wpAny _ _ (Builtin.List.listExtendWith (.ref s.heap.objs.size) (.ref tp) (.ref s.heap.objs.size)) _ _ { s with heap:=s.heap.push (seqObj "list" #[] 0) }
 unfold Builtin.List.listExtendWith;refine Yy0 (Y3o (T:="tuple") ⟨ot,ht1,hc⟩ ?_);rw [if_pos (by rw [show(Value.type "tuple" == Value.type "tuple")=true from rfl];simp)];refine Yy0 (listItems_at ht1 hd ?_);refine Yy0 (listItems_at (xs:=#[]) (n:=0) hL1 rfl ?_);rw[if_neg (by simp)];refine Yy0 (Y1X (xs:=#[]) (n:=0) hL1 rfl ?_ (Yl _) (by show(#[]++vs.toArray).size<=sizeLine+1;simp only [Array.size_append,Yy9,Yy12];lia));refine Yf ?_;refine Yy0 (Y3p (Y3f hL1 _) ?_);show wpAny _ _ (pure ((#[]:Array Value)++vs.toArray).toList) Q E _
 rw[show((#[]:Array Value)++vs.toArray).toList=vs by simp];exact Yf k
end
section
variable{X:Cx}
def Zt12(K:Ad):R2:=λx y H Q=>∃ a b xs ys,x=.ref a/\y=.ref b/\SqT K H a xs/\SqT K H b ys/\xs.length+ys.length<=sizeLine /\
 (xs=[]->Q (.ref b) H)/\(xs≠[]->ys=[]->Q (.ref a) H)/\(xs≠[]->ys≠[]->∀ p,H p=none->Q (.ref p) (upd H p (.tup (xs++ys))))
theorem Zz42(K:Ad)(hk:X.K=K:=by rfl):OpR X (binaryOp .Add) (Zt12 K):=by
 intro pins s σ H x y v u Q I rx ry h;obtain⟨a,b,xs,ys,e1,e2,ha,hb,hz,q0,q1,q2⟩:=id h;by_cases hx:xs=[]
 .subst hk e1 e2;cases rx;cases ry;obtain⟨its,r1,p1,_⟩:=I.tuple ha;obtain⟨its2,r2,p2,_⟩:=I.tuple hb;have hi:its=[]:=r1.nil_iff.mpr hx
  obtain⟨⟨cls,dd,data,sl⟩,ho,hc,n,hd⟩:=id p1;obtain⟨⟨cls2,dd2,data2,sl2⟩,ho2,hc2,n2,hd2⟩:=id p2;simp only at hc hd hc2 hd2;subst hc hd hc2 hd2;exact Y3s ⟨_,ho,rfl⟩ ⟨_,ho2,rfl⟩ Y3r seq_tuple_add Y2b Yy27 (Yy20 _ _)
   (tuple_addW0 a b its.toArray its2.toArray n n2 dd dd2 sl sl2 (by simp[hi])) ⟨ho,ho2,⟨.ref b,H,I,rfl,q0 hx⟩⟩
 .exact Zg9 K hk pins s σ H x y v u Q I rx ry ⟨a,b,xs,ys,e1,e2,ha,hb,hx,hz,q1 hx,q2 hx⟩
end
end L2
namespace My
open PySem L2
theorem Zb13(h:mk m a=mk m b):lm m a b=m:=by unfold lm;rw[if_neg (λz=>z h)]
theorem ZN6(ha:a<m.length)(hb:b<m.length):cnt m<=cnt (lm m a b)+1:=by
 by_cases e:mk m a=mk m b
 .rw[Zb13 e];lia
 .have:=ZI2 ha hb e;lia
theorem ZB8:∀ es:List (Nat × Nat),InN n es->n<=cnt (lms n es)+es.length:=by
 refine ZR (λ_=>?_) λes x ih hn=>?_
 .have:cnt (lms n [])=n:=ZJ2 n
  lia
 .obtain⟨h1,h2,h3⟩:=hn.snoc;have hl:=Zv n es
  have:=ZN6 (m:=lms n es) (a:=x.1) (b:=x.2) (by lia) (by lia)
  have:=ih h1
  rw[ZZ,Yy5,Yz,Yy12];lia
theorem ZM6(h:1<=M.length):1<=cnt M:=by unfold cnt fstA;refine Y2d (a:=0) (Yn.mpr ⟨YG.mpr (by lia),fstB_iff.mpr λi hi=>absurd hi (Yy02 i)⟩)
theorem Zz21(hn:1<=n)(h:InN n es):cnt (lms n es)=1↔∀ i j,i<n->j<n->Conn es i j:=by rw[ZP11 (by rwa[Zv])];exact ZN5 h
theorem ZT3(hn:ts.Nodup)(ho:o∈ts):(wo ts o).length+1=ts.length:=by
 induction ts with
 | nil=>cases ho
 | cons x r ih =>
  obtain⟨h1,h2⟩:=Y0p.mp hn;unfold wo;rw[Y0B];by_cases e:x=o
  .subst e;rw[if_neg (by simp)]
   have:r.filter (λy=>decide (y≠x))=r:=Y1R.mpr λy hy=>Yt λe=>h1 (e ▸ hy)
   rw[this];rfl
  .rw[if_pos (Yt e)]
   have:=ih h2 ((Ye.mp ho).resolve_left λz=>e z.symm)
   unfold wo at this;rw[Yz,Yz];lia
def Zu(ps:Aa)(z:Int):Nat × Nat:=((ps.getD z.toNat (0,0)).1.toNat,(ps.getD z.toNat (0,0)).2.toNat)
theorem ZQ(ps:Aa)(ns:Ac)(z:Int):Zz7 ps (ns++[z])=Zz7 ps ns++[Zu ps z]:=by unfold Zz7 Zu;rw[YC];rfl
theorem Zf1(g:Zy n ps)(z0:0<=z)(z1:z<(ps.length:Int)):(Zu ps z).1<n.toNat/\(Zu ps z).2<n.toNat:=by
 have:=ZT (ns:=[z]) g (λy hy=>by rw[Yy1.mp hy];exact⟨z0,z1⟩)
 exact this (Zu ps z) (by unfold Zz7 Zu;simp)
theorem Zg10(hT:Zf n ps ts):∀ y∈wo ts o,0<=y/\y<(ps.length:Int):=λy hy=>hT.1.all y (wo_mem.mp hy).1
theorem exch(g:Zy n ps)(hT:Zf n ps ts)(ho:o∈ts)(z0:0<=z)(z1:z<(ps.length:Int)) :
  (∀ i j,i<n.toNat->j<n.toNat->Conn (Zz7 ps (wo ts o++[z])) i j)↔¬ Conn (Zz7 ps (wo ts o)) (Zu ps z).1 (Zu ps z).2:=by
 have hn:1<=n.toNat:=by have:=g.1;lia
 have hw:=ZT3 hT.1.nodup ho;have hl:(ts.length:Int)=n - 1:=hT.2.1
 have i0:InN n.toNat (Zz7 ps (wo ts o)):=ZT g (Zg10 hT);have hz:=Zf1 g z0 z1
 have ob:=hT.1.all o ho;have hoe:=Zf1 g ob.1 ob.2
 have i1:InN n.toNat (Zz7 ps (wo ts o)++[Zu ps z]):=λe he=>(Ya.mp he).elim (i0 e) λq=>by rwa[Yy1.mp q]
 have i2:InN n.toNat (Zz7 ps (wo ts o)++[Zu ps o]):=λe he=>(Ya.mp he).elim (i0 e) λq=>by rwa[Yy1.mp q]
 have hL:=Zv n.toNat (Zz7 ps (wo ts o));have le:(Zz7 ps (wo ts o)).length=(wo ts o).length:=by unfold Zz7;rw[Yc]
 rw[ZQ];constructor
 .intro hc c;have h1:cnt (lms n.toNat (Zz7 ps (wo ts o)++[Zu ps z]))=1:=(Zz21 hn i1).mpr hc
  rw[ZZ,Zb13 ((ZM i0 hz.1 hz.2).mpr c)]at h1
  have:=ZB8 _ i0
  lia
 .intro hc;have h2:cnt (lms n.toNat (Zz7 ps (wo ts o)++[Zu ps o]))=1:=by
   refine(Zz21 hn i2).mpr λi j hi hj=>?_;rw[<- ZQ];refine(Zc1 λy=>?_).mp (hT.2.2 i j hi hj);rw[Ya,wo_mem,Yy1];constructor
   .intro hy;by_cases e:y=o
    .exact .inr e
    .exact .inl ⟨hy,e⟩
   .rintro(q | q)
    .exact q.1
    .rw[q];exact ho
  rw[ZZ]at h2;have h3:=ZN6 (m:=lms n.toNat (Zz7 ps (wo ts o))) (a:=(Zu ps o).1) (b:=(Zu ps o).2) (by lia) (by lia)
  have h4:=ZI2 (m:=lms n.toNat (Zz7 ps (wo ts o))) (a:=(Zu ps z).1) (b:=(Zu ps z).2) (by lia) (by lia) (λe=>hc ((ZM i0 hz.1 hz.2).mp e));have h5:=ZM6 (M:=lm (lms n.toNat (Zz7 ps (wo ts o))) (Zu ps z).1 (Zu ps z).2) (by rw[ZN1];lia)
  refine(Zz21 hn i1).mp ?_;rw[ZZ];lia
def cutT(n:Int)(ps:Aa)(ts:Ac)(o:Int):Ac:=unlike (lms n.toNat (Zz7 ps (wo ts o))) ps ps.length
theorem ZR2{z:Int}(h:z∈unlike M ps i):0<=z/\z<(i:Int):=by
 unfold unlike at h;obtain⟨k,hk,rfl⟩:=Yx.mp h
 have:=YG.mp (Yn.mp hk).1
 lia
theorem Zz11(g:Zy n ps)(hT:Zf n ps ts)(z0:0<=z)(z1:z<(ps.length:Int)):z∈cutT n ps ts o↔¬ Conn (Zz7 ps (wo ts o)) (Zu ps z).1 (Zu ps z).2:=by have hz:=Zf1 g z0 z1;unfold cutT;rw[Zf5 z0 z1];exact not_congr (ZM (ZT g (Zg10 hT)) hz.1 hz.2)
def exg(n:Int)(ps:Aa)(ts:Ac)(o z:Int):Prop:=o∈ts/\z≠o/\z∈cutT n ps ts o
instance (n:Int) (ps:Aa) (ts:Ac) (o z:Int):Decidable (exg n ps ts o z):=by unfold exg;infer_instance
theorem Zs4(g:Zy n ps)(hT:Zf n ps ts) :
  exg n ps ts o z↔o∈ts/\z∉ts/\0<=z/\z<(ps.length:Int)/\∀ i j,i<n.toNat->j<n.toNat->Conn (Zz7 ps (wo ts o++[z])) i j:=by
 constructor
 .rintro⟨h1,h2,h3⟩;obtain⟨z0,z1⟩:=ZR2 h3;have hc:=(Zz11 g hT z0 z1).mp h3
  refine⟨h1,λhz=>hc ?_,z0,z1,(exch g hT h1 z0 z1).mpr hc⟩;refine .edge ?_;exact Yx.mpr ⟨z,wo_mem.mpr ⟨hz,h2⟩,rfl⟩
 .rintro⟨h1,h2,z0,z1,hc⟩;exact⟨h1,λe=>h2 (e ▸ h1),(Zz11 g hT z0 z1).mpr ((exch g hT h1 z0 z1).mp hc)⟩
theorem Zo2{α β:Type}(p:α->Bool)(G:α->List β):∀ l:List α,(l.flatMap λa=>if p a=true then G a else [])=(l.filter p).flatMap G
 | []=>rfl
 | x :: l=>by
  rw[Y1B,Zo2 p G l,Y0B];by_cases h:p x=true
  .rw[if_pos h,if_pos h,Y1B]
  .rw[if_neg h,if_neg h];rfl
theorem PairsV.mut{l:Addr}{ys zs xs:List V}(hP:PairsV H xs ps)(hl:H l=some (.lst ys)):PairsV (upd H l (.lst zs)) xs ps:=by refine⟨hP.1,λj p e=>?_⟩;obtain⟨v,e1,tt,e2,e3⟩:=hP.2 j p e;exact⟨v,e1,tt,e2,by rwa[Zz9 (Zb4 e3 hl (λz=>nomatch z))]⟩
end My
namespace L2
open PySem PySem.Spec PyProof.Rows
section
variable{X:Cx}
theorem ZT5{e:Addr->Bool}(I:Inv X pins σ H s)(hu:A.units+n<cLine)(rx:RelV x w):∀ {xs:List V} {us:Ag},Vals xs us->(∀ v∈xs,∃ a,v=.ref a/\EqD X.K H n v x (e a))->∀ u∈us,SeqAt.EqAt A s u w (match u with | .ref a=>e a | _=>false)
 | _,_,.nil,_=>λu hu=>by cases hu
 | y :: xs,u :: us,.cons r t,h=>λu' hu'=>by
  rcases Ye.mp hu' with rfl | hu'
  .obtain⟨a,rfl,q⟩:=h y Yk;obtain rfl:u'=Value.ref a:=r;exact q.at I hu rfl rx
  .exact ZT5 I hu rx t (λv hv=>h v (Yi _ hv)) u' hu'
end
end L2
namespace My
open PySem L2
theorem ZI6{o y:Int}(g:Zy n ps)(hT:Zf n ps ts)(ho:o∈ts)(hy:y∈ts):y∈cutT n ps ts o↔y=o:=by
 have yb:=hT.1.all y hy;rw[Zz11 g hT yb.1 yb.2];constructor
 .intro h;by_cases e:y=o
  .exact e
  .exact absurd (.edge (Yx.mpr ⟨y,wo_mem.mpr ⟨hy,e⟩,rfl⟩)) h
 .rintro rfl;refine(exch g hT hy yb.1 yb.2).mp λi j hi hj=>(Zc1 λz=>?_).mp (hT.2.2 i j hi hj);rw[Ya,wo_mem,Yy1];constructor
  .intro hz;by_cases e:z=y
   .exact .inr e
   .exact .inl ⟨hz,e⟩
  .rintro(q | q)
   .exact q.1
   .rw[q];exact hy
theorem ringA_mem:y∈Zr12 n ps ts z l↔y∈l/\z∈cutT n ps ts y:=by unfold Zr12;rw[Yn,YH];exact Iff.rfl
theorem ZH3(g:Zy n ps)(hT:Zf n ps ts)(hx:exg n ps ts o z)(hpm:ms.Perm (wo ts o++[z]))(hpw:ms.Pairwise (·<=·)):Zf n ps ms:=by
 obtain⟨ho,hz,z0,z1,hc⟩:=(Zs4 g hT).mp hx;have nd:(wo ts o++[z]).Nodup:=Zz68 (hT.1.nodup.sublist Y2t) λh=>hz (wo_mem.mp h).1
 have ndm:ms.Nodup:=hpm.nodup_iff.mpr nd;have hl:=ZT3 hT.1.nodup ho
 have hl2:=hpm.length_eq;rw[Yy5,YB]at hl2;refine⟨isSet_iff.mpr ⟨λy hy=>?_,(List.pairwise_and_iff.mpr ⟨hpw,ndm⟩).imp λ{x y} h=>by have:=h.1;have:=h.2;lia⟩,by rw[hl2,hl];exact hT.2.1,λi j hi hj=>(Zc1 λy=>hpm.mem_iff).mpr (hc i j hi hj)⟩;rcases Ya.mp (hpm.mem_iff.mp hy) with h | h
 .exact hT.1.all y (wo_mem.mp h).1
 .rw[Yy1.mp h];exact⟨z0,z1⟩
section
variable{n:Int}{ps:Aa}{ts ms:Ac}{o z:Int}(g:Zy n ps)(hT:Zf n ps ts)(hx:exg n ps ts o z)(hpm:ms.Perm (wo ts o++[z]))(hpw:ms.Pairwise (·<=·))
include g hT hx hpm hpw
theorem Yz11{y:Int}:y∈ms↔(y∈ts/\y≠o)\/y=z:=by rw[hpm.mem_iff,Ya,wo_mem,Yy1]
end
def grd(n:Nat)(ps:Aa):Nat->Ac
 | 0=>[]
 | k+1=>if mk (lms n (Zz7 ps (grd n ps k))) (Zu ps (k:Int)).1=mk (lms n (Zz7 ps (grd n ps k))) (Zu ps (k:Int)).2 then grd n ps k else grd n ps k++[(k:Int)]
theorem ZA1(n:Nat)(ps:Aa)(k:Nat):grd n ps (k+1)=if mk (lms n (Zz7 ps (grd n ps k))) (Zu ps (k:Int)).1=mk (lms n (Zz7 ps (grd n ps k))) (Zu ps (k:Int)).2 then grd n ps k else grd n ps k++[(k:Int)]:=rfl
theorem Zz05:∀ k,∀ z∈grd n ps k,0<=z/\z<(k:Int)
 | 0,z,h=>by cases h
 | k+1,z,h=>by
  rw[ZA1]at h;split at h
  .have:=Zz05 k z h;lia
  .rcases Ya.mp h with h | h
   .have:=Zz05 k z h;lia
   .rw[Yy1.mp h];lia
theorem Zm4:∀ k,(grd n ps k).Pairwise (· < ·)
 | 0=>List.Pairwise.nil
 | k+1=>by
  rw[ZA1];split
  .exact Zm4 k
  .rw[YY];exact⟨Zm4 k,Yy05 ..,λa ha b hb=>by rw[Yy1.mp hb];exact(Zz05 k a ha).2⟩
theorem Ze6(hk:k<=ps.length):IsSet ps.length (grd n ps k):=isSet_iff.mpr ⟨λz hz=>by have:=Zz05 k z hz;lia,Zm4 k⟩
theorem Zv7(g:Zy n ps)(hk:k<=ps.length):InN n.toNat (Zz7 ps (grd n.toNat ps k)):=ZT g (Ze6 hk).all
theorem Zd6:∀ k,j<=k->∀ z,z∈grd n ps j↔z∈grd n ps k/\z<(j:Int)
 | 0,h,z=>by
  have:j=0:=by lia
  subst this;exact⟨λh=>(by cases h),λh=>h.1⟩
 | k+1,h,z=>by
  by_cases e:j=k+1
  .subst e;exact⟨λh=>⟨h,(Zz05 _ z h).2⟩,λh=>h.1⟩
  .have ih:=Zd6 (n:=n) (ps:=ps) (j:=j) k (by lia) z;rw[ZA1,ih];split
   .exact Iff.rfl
   .rw[Ya,Yy1];constructor
    .rintro⟨h1,h2⟩;exact⟨.inl h1,h2⟩
    .rintro⟨h1 | h1,h2⟩
     .exact⟨h1,h2⟩
     .lia
theorem Zt11(g:Zy n ps)(hk:k<=ps.length)(hj:j<k)(hn:(j:Int)∉grd n.toNat ps k):Conn (Zz7 ps (grd n.toNat ps j)) (Zu ps (j:Int)).1 (Zu ps (j:Int)).2:=by
 have he:=Zf1 (z:=(j:Int)) g (by lia) (by lia);have h1:(j:Int)∉grd n.toNat ps (j+1):=λh=>hn ((Zd6 k hj _).mp h).1
 rw[ZA1]at h1;split at h1
 .rename_i h;exact(ZM (Zv7 g (by lia)) he.1 he.2).mp h
 .exact absurd (Yb _ (Yy1.mpr rfl)) h1
theorem Zl4(g:Zy n ps):∀ k,k<=ps.length->cnt (lms n.toNat (Zz7 ps (grd n.toNat ps k)))+(grd n.toNat ps k).length=n.toNat
 | 0,_=>ZJ2 n.toNat
 | k+1,hk=>by
  have ih:=Zl4 g k (by lia);have he:=Zf1 (z:=(k:Int)) g (by lia) (by lia)
  have hl:=Zv n.toNat (Zz7 ps (grd n.toNat ps k));rw[ZA1];split
  .exact ih
  .rename_i h;rw[ZQ,ZZ,Yy5,YB]
   have:=ZI2 (m:=lms n.toNat (Zz7 ps (grd n.toNat ps k))) (by lia) (by lia) h
   grind
theorem Zh6(g:Zy n ps)(ht:∀ z∈ts,0<=z/\z<(ps.length:Int))(c:Conn (Zz7 ps ts) i j):Conn (Zz7 ps (grd n.toNat ps ps.length)) i j:=by
 induction c with
 | refl i=>exact .refl i
 | symm _ ih=>exact .symm ih
 | trans _ _ i1 i2=>exact .trans i1 i2
 | @edge a b h =>
  obtain⟨z,hz,e⟩:=Yx.mp h;obtain⟨z0,z1⟩:=ht z hz;have ez:z=((z.toNat:Nat):Int):=by lia
  by_cases hm:z∈grd n.toNat ps ps.length
  .exact .edge (Yx.mpr ⟨z,hm,e⟩)
  .rw[ez]at hm;have c:=Zt11 g (Yy6 _) (by lia) hm
   have c2:=c.mono (Zt λy hy=>((Zd6 ps.length (by lia) y).mp hy).1);rw[<- ez]at c2;have ea:a=(Zu ps z).1:=(YZ Prod.fst e).symm
   have eb:b=(Zu ps z).2:=(YZ Prod.snd e).symm;rwa[ea,eb]
theorem ZG9(g:Zy n ps)(hT:Zf n ps ts):Zf n ps (grd n.toNat ps ps.length):=by
 have hc:∀ i j,i<n.toNat->j<n.toNat->Conn (Zz7 ps (grd n.toNat ps ps.length)) i j:=λi j hi hj=>Zh6 g hT.1.all (hT.2.2 i j hi hj);have h1:=(Zz21 (by have:=g.1;lia) (Zv7 g (Yy6 _))).mpr hc
 have h2:=Zl4 g ps.length (Yy6 _);exact⟨Ze6 (Yy6 _),by have:=g.1;grind,hc⟩
theorem Zg6(g:Zy n ps)(h:¬ ((grd n.toNat ps ps.length).length:Int)<n - 1):Zf n ps (grd n.toNat ps ps.length):=by
 have h2:=Zl4 g ps.length (Yy6 _);have h3:=ZM6 (M:=lms n.toNat (Zz7 ps (grd n.toNat ps ps.length))) (by rw[Zv];have:=g.1;grind)
 exact⟨Ze6 (Yy6 _),by have:=g.1;grind,(Zz21 (by have:=g.1;grind) (Zv7 g (Yy6 _))).mp (by lia)⟩
theorem lex_trans:∀ {a b c:Ac},HT.lexLt a b=true->HT.lexLt b c=true->HT.lexLt a c=true
 | [],[],_,h,_=>by cases h
 | [],_ :: _,[],_,h=>by cases h
 | [],_ :: _,_ :: _,_,_=>rfl
 | _ :: _,[],_,h,_=>by cases h
 | _ :: _,_ :: _,[],_,h=>by cases h
 | x :: xs,y :: ys,z :: zs,h1,h2=>by
  rw[HT.lexLt_cons]at h1 h2 ⊢;by_cases e1:x=y
  .subst e1;rw[if_pos rfl]at h1;by_cases e2:x=z
   .subst e2;rw[if_pos rfl]at h2 ⊢;exact lex_trans h1 h2
   .rw[if_neg e2]at h2 ⊢;exact h2
  .rw[if_neg e1]at h1;have h1:=Yy h1
   by_cases e2:y=z
   .subst e2;rw[if_neg e1];exact Yt h1
   .rw[if_neg e2]at h2;have h2:=Yy h2
    rw[if_neg (by lia)];exact Yt (by omega)
theorem lex_irrefl:∀ a:Ac,HT.lexLt a a=false
 | []=>rfl
 | x :: xs=>by rw[HT.lexLt_cons,if_pos rfl];exact lex_irrefl xs
theorem best_le(bt:Nat->Nat->Bool):∀ j,argBest bt j<=j
 | 0=>Yy6 _
 | j+1=>by
  unfold argBest;split
  .exact Yy6 _
  .have:=best_le bt j;lia
def TupV(H:Hp)(v:V)(l:Ac):Prop:=∃ a,v=.ref a/\H a=some (.tup (IL l))
def TupsV(H:Hp)(xs:List V)(L:Ab):Prop:=xs.length=L.length/\∀(i:Nat) (l:Ac),L[i]?=some l->∃ v,xs[i]?=some v/\TupV H v l
theorem TupsV.same(s:Same H H')(h:TupsV H xs L):TupsV H' xs L:=⟨h.1,λi l e=>let ⟨v,e1,a,e2,e3⟩:=h.2 i l e;⟨v,e1,a,e2,s _ _ e3⟩⟩
theorem TupsV.nil:TupsV H [] []:=⟨rfl,λi p e=>by simp at e⟩
theorem TupsV.app(h:TupsV H xs L)(h2:TupsV H ys M):TupsV H (xs++ys) (L++M):=by
 refine⟨by rw[Yy5,Yy5,h.1,h2.1],λi l e=>?_⟩;by_cases hi:i<L.length
 .rw[Yu hi]at e;obtain⟨v,e1,q⟩:=h.2 i l e;exact⟨v,by rw[Yu (by rwa[h.1])];exact e1,q⟩
 .rw[Yv (by lia)]at e;obtain⟨v,e1,q⟩:=h2.2 _ l e;exact⟨v,by rw[Yv (by rw[h.1];omega),h.1];exact e1,q⟩
theorem TupsV.one(q:TupV H v l):TupsV H [v] [l]:=⟨rfl,λi m e=>by
 cases i with
 | zero=>have e:l=m:=(by simpa using e);exact⟨v,rfl,e ▸ q⟩
 | succ i=>simp at e⟩
theorem TupsV.snoc(h:TupsV H xs L)(q:TupV H v l):TupsV H (xs++[v]) (L++[l]):=h.app (.one q)
def nxt(s:Ac):Int:=match s.getLast? with | none=>0 | some x=>x+1
def ext1(m:Int)(s:Ac):Ab:=(List.range (m - nxt s).toNat).map λ(i:Nat)=>s++[nxt s+(i:Int)]
def cmb(m:Int):Nat->Ab
 | 0=>[[]]
 | k+1=>(cmb m k).flatMap (ext1 m)
theorem ZO5(s:Ac)(x:Int):nxt (s++[x])=x+1:=by unfold nxt;rw[List.getLast?_append];rfl
theorem ext1_mem{s l:Ac}:l∈ext1 m s↔∃ t,nxt s<=t/\t<m/\l=s++[t]:=by
 unfold ext1;rw[Yx];constructor
 .rintro⟨i,hi,rfl⟩
  have:=YG.mp hi
  exact⟨_,by lia,by omega,rfl⟩
 .rintro⟨t,h1,h2,rfl⟩;exact⟨(t - nxt s).toNat,YG.mpr (by lia),by rw[show nxt s+(((t - nxt s).toNat:Nat):Int)=t by lia]⟩
theorem asc_snoc{t:Int}:IsSet m (s++[t])↔IsSet m s/\nxt s<=t/\0<=t/\t<(m:Int):=by
 rw[isSet_iff,isSet_iff,YY];have last:(∀ a∈s,∀ b∈[t],a<b)/\s.Pairwise (· < ·)->nxt s<=t\/t<0:=by
  rintro⟨h,_⟩;unfold nxt;cases e:s.getLast? with
  | none=>by_cases h0:0<=t;exact .inl h0;exact .inr (by lia)
  | some x=>have:=h x (Y1b e) t (by simp);exact .inl (by show x+1<=t;lia)
 constructor
 .rintro⟨h1,h2,_,h3⟩;have ht:=h1 t (by simp)
  refine⟨⟨λz hz=>h1 z (Yg _ hz),h2⟩,?_,ht⟩;rcases last ⟨h3,h2⟩ with h | h
  .exact h
  .omega
 .rintro⟨⟨h1,h2⟩,h3,h4,h5⟩;refine⟨λz hz=>?_,h2,Yy05 ..,λa ha b hb=>?_⟩
  .rcases Ya.mp hz with h | h
   .exact h1 z h
   .rw[Yy1.mp h];exact⟨h4,h5⟩
  .rw[Yy1.mp hb];have key:∀ {s:Ac} {a:Int},s.Pairwise (· < ·)->a∈s->a<nxt s:=by
    refine λ{s}=>ZR (P:=λs=>∀ {a:Int},s.Pairwise (· < ·)->a∈s->a<nxt s) (λ{a} _ h=>by cases h) (λl x ih {a} hp h=>?_) s;rw[ZO5];rw[YY]at hp;rcases Ya.mp h with h | h
    .have:=hp.2.2 a h x (by simp);lia
    .rw[Yy1.mp h];lia
   have:=key h2 ha
   lia
theorem cmb_mem{m:Nat}:∀ {k:Nat} {l:Ac},l∈cmb (m:Int) k↔l.length=k/\IsSet m l
 | 0,l=>by
  show l∈[[]]↔_;rw[Yy1];constructor
  .rintro rfl;exact⟨rfl,λi z e=>by simp at e⟩
  .rintro⟨h,_⟩;exact YV.mp h
 | k+1,l=>by
  show l∈(cmb (m:Int) k).flatMap (ext1 m)↔_;rw[List.mem_flatMap];constructor
  .rintro⟨s,hs,hl⟩;obtain⟨t,h1,h2,rfl⟩:=ext1_mem.mp hl;obtain⟨e,hI⟩:=cmb_mem.mp hs;have n0:0<=nxt s:=by
    unfold nxt;cases q:s.getLast? with
    | none=>exact Y0G 0
    | some x=>have:=(hI.all x (Y1b q)).1;show 0<=x+1;lia
   exact⟨by rw[Yy5,e];rfl,asc_snoc.mpr ⟨hI,h1,by lia,h2⟩⟩
  .rintro⟨e,hI⟩;have hne:l≠[]:=λz=>by rw[z]at e;simp at e
   obtain⟨s,t,rfl⟩:∃ s t,l=s++[t]:=⟨l.dropLast,l.getLast hne,(Y2U hne).symm⟩;obtain⟨h1,h2,h3,h4⟩:=asc_snoc.mp hI;exact⟨s,cmb_mem.mpr ⟨by rw[Yy5]at e;simpa using e,h1⟩,ext1_mem.mpr ⟨t,h2,h4,rfl⟩⟩
theorem ZJ9(h:IsSet m s):(ext1 (m:Int) s).length<=m:=by
 unfold ext1;rw[Yc,YK];have n0:0<=nxt s:=by
  unfold nxt;cases q:s.getLast? with
  | none=>exact Y0G 0
  | some x=>have:=(h.all x (Y1b q)).1;show 0<=x+1;lia
 omega
theorem Zr6:∀ L:Ab,(∀ s∈L,IsSet m s)->(L.flatMap (ext1 (m:Int))).length<=m * L.length
 | [],_=>Yl _
 | s :: L,h=>by
  have:=Zr6 L λx hx=>h x (Yi _ hx)
  have:=ZJ9 (h s Yk)
  rw[Y1B,Yy5,Yz,Nat.mul_succ];lia
theorem ZB7{α β:Type}{l:List α}{f:α->List β}{y:α}(h:l[i]?=some y):(l.take (i+1)).flatMap f=(l.take i).flatMap f++f y:=by
 rw[YS,h,List.flatMap_append];congr 1;show List.flatMap f [y]=_
 simp
theorem Zi3:∀ {w t:Ac},t.Pairwise (· < ·)->w.Pairwise (· < ·)->(∀ z∈t,z∈w)->t.Sublist w
 | [],[],_,_,_=>List.Sublist.slnil
 | [],x :: t,_,_,h=>absurd (h x Yk) (by simp)
 | y :: w,[],_,_,_=>List.nil_sublist _
 | y :: w,x :: t,ht,hw,h=>by
  obtain⟨h1,h2⟩:=Yy03.mp ht;obtain⟨h3,h4⟩:=Yy03.mp hw;by_cases e:x=y
  .subst e;refine List.Sublist.cons₂ _ (Zi3 h2 h4 λz hz=>?_);rcases Ye.mp (h z (Yi _ hz)) with q | q
   .have:=h1 z hz;lia
   .exact q
  .have hx:x∈w:=(Ye.mp (h x Yk)).resolve_left e;refine List.Sublist.cons _ (Zi3 ht h4 λz hz=>?_);rcases Ye.mp (h z hz) with q | q
   .have:=h3 x hx
    rcases Ye.mp hz with q2 | q2
    .rw[q2];exact hx
    .have:=h1 z q2;lia
   .exact q
def pmf(M:Ac)(es:List (Nat × Nat)):Ac:=es.foldl (λm e=>pm m e.1 e.2) M
theorem Zz59(M:Ac)(es:List (Nat × Nat))(e:Nat × Nat):pmf M (es++[e])=pm (pmf M es) e.1 e.2:=by unfold pmf;rw[Y1z];rfl
theorem ZH5(M:Ac):∀ es:List (Nat × Nat),(pmf M es).length=M.length:=by
 intro es;unfold pmf
 induction es generalizing M with
 | nil=>rfl
 | cons e l ih=>rw[Y2i,ih,Zt1]
theorem ZG6{i:Int}(h0:0<=i):cutV xs none (some i)=xs.take i.toNat:=by
 have e:HT.sIx xs.length xs.length (some i)=min i.toNat xs.length:=by show(if i<0 then (i+(xs.length:Int)).toNat else min i.toNat xs.length)=_;rw[if_neg (by lia)]
 unfold cutV;rw[e,HT.sIx_none,List.drop_zero,Nat.sub_zero];by_cases h:i.toNat<=xs.length
 .rw[Nat.min_eq_left h]
 .rw[Nat.min_eq_right (by lia),Yy08 (Yy6 _),Yy08 (by omega)]
def rgL(m:Nat):Ac:=(List.range m).map λ(i:Nat)=>(i:Int)
theorem rgL_mem{z:Int}:z∈rgL m↔0<=z/\z<(m:Int):=by
 unfold rgL;rw[Yx];constructor
 .rintro⟨i,hi,rfl⟩
  have:=YG.mp hi
  lia
 .intro h;exact⟨z.toNat,YG.mpr (by lia),by lia⟩
theorem Zz31(m:Nat):(rgL m).length=m:=by unfold rgL;simp
theorem Yz5(m:Nat):(rgL m).Pairwise (· < ·):=by unfold rgL;rw[Yy24];exact Y1v.imp λh=>by omega
theorem ZX7(m:Nat):IsSet m (rgL m):=isSet_iff.mpr ⟨λz hz=>rgL_mem.mp hz,Yz5 m⟩
theorem ZX8(m:Nat):rngI 0 (m:Int)=rgL m:=by unfold rngI rgL;rw[Y2W,Yw];exact YM λi _=>by lia
def Zz810(n:Int)(ps:Aa):Prop:=∀ i j,i<n.toNat->j<n.toNat->Conn (Zz7 ps (rgL ps.length)) i j
end My
namespace L2
open PySem PySem.Spec PyProof.Rows
section
variable{prog:Program}{w:World}{A:Around}{E:Ae}{s:Shared}
theorem Zz55{r:Addr}{a b c:Int}{t u v:Tok}{n:Nat}{Q:List Value->Shared->Prop}(hh:A.handled=none)(hr:IsRange s.heap r a b c t u v)(hm:Builtin.Range.small a b c=true)(hn:Builtin.Range.rangeSize a b c=n)(hl:n<=2 ^ 24)
  (k:∀(h':Heap) (tk:Nat) (acc:Array Value),(∀ b o,s.heap.get? b=some o->h'.get? b=some o)->ItemsOf (λi v=>∃ t,v=.int (a+i * c) t) acc n->Q acc.toList { s with heap:=h',toks:=tk }):wpAny (model prog w) A (collect (.ref r)) Q E s:=by
 have hL1:(s.heap.push (seqObj "list" #[] 0)).get? s.heap.objs.size=some (seqObj "list" #[] 0):=Yj _ rfl;unfold collect;refine Yy0 (Y2O (Yy01 Y3k ?_));show wpAny _ A.in1 (do again (.builtin "list.__iadd__" ⟨[<- newList [],.ref r],[]⟩)) _ _ s
 refine Yy0 (Yy23 (Yf ⟨Y1G _ (by decide +kernel),Yy01 entry_list_iadd' ?_⟩));show wpAny _ A.in1 (Builtin.List.listExtendWith (.ref s.heap.objs.size) (.ref r) (.ref s.heap.objs.size)) _ _ { s with heap:=s.heap.push (seqObj "list" #[] 0) }
 refine Y0x (wpAny_extend_range (A:=A) (R:=λx s'=>∃(h':Heap) (tk:Nat) (acc:Array Value) (c':Nat),x=.ok (.ret (.ref s.heap.objs.size))/\s'={ s with heap:=h',toks:=tk }/\(∀ b o,s.heap.get? b=some o->h'.get? b=some o) /\
   h'.get? s.heap.objs.size=some { cls:=.type "list",dict:=none,data:=.seq acc c',slots:=#[] }/\ItemsOf (λi v=>∃ t,v=.int (a+i * c) t) acc n)
  (s:={ s with heap:=s.heap.push (seqObj "list" #[] 0) }) hh (Yy4 _ hr) hm hn hl _ _ 0 hL1 λh' tk acc c' k1 k2 k3=>⟨h',tk,acc,c',rfl,rfl,λb o e=>k1 b o (Yo (Yh e)) (Yy4 _ e),k2,k3⟩) (λfin s' z=>?_) (λe s' z=>?_)
 .cases fin with
  | done f =>
   obtain⟨h',tk,acc,c',e,rfl,k1,k2,k3⟩:=z;cases e;refine Yy0 (Y3p k2 ?_);exact Yf (k h' tk acc k1 k3)
  | again c' =>
   refine⟨z.1,Y1l z.2 λx s2 z=>?_⟩;obtain⟨h',tk,acc,c',rfl,rfl,k1,k2,k3⟩:=z;refine Yy0 (Y3p k2 ?_);exact Yf (k h' tk acc k1 k3)
 .obtain⟨h',tk,acc,c',e,_⟩:=z;cases e
theorem Zz43{r:Addr}{a b c:Int}{t u v:Tok}{n:Nat}(hm:Builtin.Range.small a b c=true)(hn:Builtin.Range.rangeSize a b c=n)(hl:n<=2 ^ 24) :
  Meets (Builtin.«tuple.__new__» ⟨[.type "tuple",.ref r],[]⟩) (λA R s=>A.handled=none/\IsRange s.heap r a b c t u v/\∀(h':Heap) (tk:Nat) (acc:Array Value),(∀ b o,s.heap.get? b=some o->h'.get? b=some o)->ItemsOf (λi v=>∃ t,v=.int (a+i * c) t) acc n ->
   R (.ok (.ret (.ref h'.objs.size))) { s with heap:=h'.push (seqObj "tuple" acc 0),toks:=tk }) :=
 .of_wp λprog w A R s h=>by
  obtain⟨hh,hr,h⟩:=h;have e1:=sub_tuple_self
  have e2:=init_tuple_lookup;have e3:=madeHere_tuple
  have hT:s.TypeIs (.ref r) "range":=⟨_,hr,rfl⟩;have hh1:A.in1.handled=none:=hh
  wp_walk using Y3o hT,Zz55 hh1 hr hm hn hl
  intro h' tk acc hk hacc;show wpAny _ _ (Builtin.Tuple.tupleExact acc.toList.toArray >>= ret) _ _ _
  unfold Builtin.Tuple.tupleExact;have e:acc.toList.toArray=acc:=by simp
  rw[e];refine Yy0 (Y0h ?_ (by show acc.size<=sizeLine;rwa[hacc.1,Y0W]));exact Yf ⟨_,rfl,h h' tk acc hk hacc⟩
theorem Zf2{r:Addr}{a b c:Int}{t u v:Tok}{n:Nat}{Q:Ae}(hh:A.handled=none)(hr:IsRange s.heap r a b c t u v)(hm:Builtin.Range.small a b c=true)(hn:Builtin.Range.rangeSize a b c=n)(hl:n<=2 ^ 24)
  (k:∀(h':Heap) (tk:Nat) (acc:Array Value),(∀ b o,s.heap.get? b=some o->h'.get? b=some o)->ItemsOf (λi v=>∃ t,v=.int (a+i * c) t) acc n->Q (.ref h'.objs.size) { s with heap:=h'.push (seqObj "tuple" acc 0),toks:=tk }):wpAny (model prog w) A (call (.type "tuple") [.ref r]) Q E s :=
 callType_new F.called_tuple (by decide) (F.typeCall_tuple_1 _) (F.newCall_tuple_1 _) (λo=>F.args_object_init_2 o _) F.entry_tuple_new (Zz43 (t:=t) (u:=u) (v:=v) hm hn hl)
  ⟨hh,hr,λh' tk acc hk hacc=>⟨⟨_,Yj _ rfl,rfl⟩,k h' tk acc hk hacc⟩⟩
end
section
variable{X:Cx}
theorem Zw1 (hc:X.calm=true):Zg2 X (.type "tuple") (λxs H Q=>∃ p lo hi,xs=[.ref p]/\H p=some (.rng lo hi)/\(-(2 ^ 62)<=lo/\lo<2 ^ 62/\-(2 ^ 62)<=hi/\hi<2 ^ 62)/\(hi - lo).toNat<=16777216 /\
  ∀ l,H l=none->Q (.ref l) (upd H l (.tup ((rngI lo hi).map V.int)))):=by
 intro pins s σ H xs us Q I r h;obtain⟨p,lo,hi,rfl,hp,⟨b1,b2,b3,b4⟩,hz,q⟩:=h;obtain⟨u,rfl,ru⟩:=Zk3 r;obtain rfl:u=Value.ref p:=ru;obtain⟨t,u,v,e⟩:=(show ObjOk X.prog X.w H s.heap p (.rng lo hi) from I.hok p _ hp);have hn:Builtin.Range.rangeSize lo hi 1=(((hi - lo).toNat:Nat):Int):=by rw[rangeSize_one];split <;> grind
 refine Zf2 (I.ok.hd hc) (t:=t) (u:=u) (v:=v) e (small_one b1 b2 b3 b4) hn hz λh' tk acc hk ha=>?_;have hl:acc.toList.length=(hi - lo).toNat:=by rw[YA];exact ha.1
 have rv:Vals ((rngI lo hi).map V.int) acc.toList:=Zd5 (lo:=lo) hl λj w ew=>by obtain⟨t,e⟩:=ha.2 j w (by simpa using ew);exact⟨t,by rw[e,Y1r]⟩
 have I1:Inv X pins σ H { s with heap:=h',toks:=tk }:=I.kept (t':=tk) hk;have hz2:((rngI lo hi).map V.int).length<=sizeLine:=by
  rw[Yc,Zl2]
  have:sizeLine=16777216:=Y0W
  lia
 have I2:Inv X pins σ (upd H h'.objs.size (.tup ((rngI lo hi).map V.int))) { s with heap:=h'.push (seqObj "tuple" acc.toList.toArray 0),toks:=tk } :=
  I1.laid (t':=tk) (λb o e=>Yy4 _ e) (Yy6 _) (show ObjOk X.prog X.w _ _ _ (.tup ((rngI lo hi).map V.int)) from⟨hz2,acc.toList,rv,IsTup.new _ _⟩)
 have ea:acc.toList.toArray=acc:=by simp
 rw[ea]at I2;exact⟨.ref h'.objs.size,_,I2,rfl,q _ (I1.hok.fresh (Yy6 _))⟩
end
end L2
namespace My
open PySem L2
def gst(n:Nat)(ps:Aa)(G:Ac)(z:Int):Ac:=if mk (lms n (Zz7 ps G)) (Zu ps z).1=mk (lms n (Zz7 ps G)) (Zu ps z).2 then G else G++[z]
def grw(n:Nat)(ps:Aa)(zs:Ac):Ac:=zs.foldl (gst n ps) []
theorem Zz01(n:Nat)(ps:Aa)(zs:Ac)(z:Int):grw n ps (zs++[z])=gst n ps (grw n ps zs) z:=by unfold grw;rw[Y1z];rfl
theorem Zk4(n:Nat)(ps:Aa)(zs:Ac):∀ ys,∃ us,grw n ps (zs++ys)=grw n ps zs++us/\us.Sublist ys:=by
 refine ZR ⟨[],by simp⟩ λys y ih=>?_;obtain⟨us,e,s⟩:=ih;rw[<- Yy09,Zz01,e];unfold gst;split
 .exact⟨us,rfl,s.trans (List.sublist_append_left _ _)⟩
 .exact⟨us++[y],by rw[Yy09],s.append (List.Sublist.refl _)⟩
theorem Zz93(n:Nat)(ps:Aa)(zs:Ac):(grw n ps zs).Sublist zs:=by obtain⟨us,e,s⟩:=Zk4 n ps [] zs;rw[Y1S]at e;rwa[e]
theorem Zi4(n:Nat)(ps:Aa):∀ k,grw n ps ((List.range k).map λ(i:Nat)=>(i:Int))=grd n ps k
 | 0=>rfl
 | k+1=>by rw[Y0L,YC,Y2x,Zz01,Zi4 n ps k,ZA1];rfl
theorem Zl8(h:∀ z∈zs,0<=z/\z<(ps.length:Int)):∀ z∈grw n ps zs,0<=z/\z<(ps.length:Int):=λz hz=>h z ((Zz93 n ps zs).subset hz)
theorem ZZ4(g:Zy n ps)(h:∀ z∈zs,0<=z/\z<(ps.length:Int)):InN n.toNat (Zz7 ps (grw n.toNat ps zs)):=ZT g (Zl8 h)
theorem Zj4(g:Zy n ps):∀ zs:Ac,(∀ z∈zs,0<=z/\z<(ps.length:Int))->cnt (lms n.toNat (Zz7 ps (grw n.toNat ps zs)))+(grw n.toNat ps zs).length=n.toNat:=by
 refine ZR (λ_=>ZJ2 n.toNat) λzs z ih h=>?_;have h1:∀ z∈zs,0<=z/\z<(ps.length:Int):=λy hy=>h y (Yg _ hy)
 have ih:=ih h1;obtain⟨z0,z1⟩:=h z (Yb _ (Yy1.mpr rfl));have he:=Zf1 (z:=z) g z0 z1
 have hl:=Zv n.toNat (Zz7 ps (grw n.toNat ps zs));rw[Zz01];unfold gst;split
 .exact ih
 .rename_i h;rw[ZQ,ZZ,Yy5,YB]
  have:=ZI2 (m:=lms n.toNat (Zz7 ps (grw n.toNat ps zs))) (by lia) (by lia) h
  grind
theorem Zk8(g:Zy n ps)(h:∀ z∈zs,0<=z/\z<(ps.length:Int)):(grw n.toNat ps zs).length<=14:=by
 have:=Zj4 g zs h
 have:=g.2.1
 lia
theorem ZF9(g:Zy n ps):∀ zs:Ac,(∀ z∈zs,0<=z/\z<(ps.length:Int))->∀ {i j:Nat},Conn (Zz7 ps zs) i j->Conn (Zz7 ps (grw n.toNat ps zs)) i j:=by
 refine ZR (λ_ _ _ c=>c) λzs z IH h i j c=>?_;have h1:∀ z∈zs,0<=z/\z<(ps.length:Int):=λy hy=>h y (Yg _ hy)
 obtain⟨z0,z1⟩:=h z (Yb _ (Yy1.mpr rfl));have he:=Zf1 (z:=z) g z0 z1
 have up:∀ {a b:Nat},Conn (Zz7 ps (grw n.toNat ps zs)) a b->Conn (Zz7 ps (grw n.toNat ps (zs++[z]))) a b:=λc=>by
  rw[Zz01];unfold gst;split
  .exact c
  .exact c.mono (Zt λy hy=>Yg _ hy)
 have own:Conn (Zz7 ps (grw n.toNat ps (zs++[z]))) (Zu ps z).1 (Zu ps z).2:=by
  rw[Zz01];unfold gst;split
  .rename_i e;exact(ZM (ZZ4 g h1) he.1 he.2).mp e
  .rw[ZQ];exact .edge (Yb _ (Yy1.mpr rfl))
 induction c with
 | refl i=>exact .refl i
 | symm _ ih=>exact .symm ih
 | trans _ _ i1 i2=>exact .trans i1 i2
 | @edge a b e =>
  rw[ZQ]at e;rcases Ya.mp e with e | e
  .exact up (IH h1 (.edge e))
  .have e:=Yy1.mp e;have ea:a=(Zu ps z).1:=YZ Prod.fst e
   have eb:b=(Zu ps z).2:=YZ Prod.snd e;rwa[ea,eb]
theorem Zf6(g:Zy n ps):Zz810 n ps↔¬ ((grd n.toNat ps ps.length).length:Int)<n - 1:=by
 constructor
 .intro h;have hc:∀ i j,i<n.toNat->j<n.toNat->Conn (Zz7 ps (grd n.toNat ps ps.length)) i j:=λi j hi hj=>Zh6 g (λz hz=>rgL_mem.mp hz) (h i j hi hj)
  have h1:=(Zz21 (by have:=g.1;lia) (Zv7 g (Yy6 _))).mpr hc;have h2:=Zl4 g ps.length (Yy6 _)
  have:=g.1
  grind
 .intro h i j hi hj;exact((Zg6 g h).2.2 i j hi hj).mono (Zt λz hz=>rgL_mem.mpr (by have:=Zz05 ps.length z hz;lia))
end My
namespace PyProof.Rows
open PySem
abbrev dK:Keyed:=(Value.none,Value.none)
section
variable{O:KeyOrd}{key:Keyed->O.α}{kd:SortKind}
def ke(key:Keyed->O.α)(arr:Array Keyed)(i:Nat):O.α:=key (arr.getD i dK)
def RK(O:KeyOrd)(key:Keyed->O.α)(x y:Keyed):Prop:=O.kle (key x) (key y)
abbrev LoS:=Option (Array Keyed) × Array Keyed × Nat × Nat × Nat × Nat × Nat
abbrev HiS:=Option (Array Keyed) × Nat × Nat × Array Keyed × Nat × Nat × Nat
def offs:List (List Keyed)->Nat->List (Nat × Nat)
 | [],_=>[]
 | g :: gs,o=>(o,g.length) :: offs gs (o+g.length)
structure PI (O:KeyOrd) (key:Keyed->O.α) (kd:SortKind) (a₀:Array Keyed) (st:SortSt) (segs:List (List Keyed)) (rest:List Keyed):Prop where
 kind:kindOf st=kd
 fail:failedOf st=none
 perm:(arrOf st).Perm a₀
 arr:(arrOf st).toList=segs.flatten++rest
 srt:∀ g∈segs,1<=g.length/\g.Pairwise (RK O key)
 pend:(pendingOf st).toList.map (λp=>(p.1,p.2.1))=offs segs 0
end
end PyProof.Rows
namespace L2
open PySem PySem.Spec PyProof.Rows
section
def sameBut(a:Addr)(h h':Heap):Prop:=∀ b o,b≠a->h.get? b=some o->h'.get? b=some o
end
end L2
namespace L2
open PySem PySem.Spec PyProof.Rows My
theorem ints_uniq:∀ {vs:Ag} {ns ms:Ac},IntsAre vs ns->IntsAre vs ms->ns=ms
 | _,_,_,.nil,.nil=>rfl
 | _,_,_,.cons n t h,.cons _ _ k=>by rw[ints_uniq h k]
end L2
namespace My
open PySem L2
abbrev lexS(a b:Ac):Prop:=HT.lexLt a b=true
theorem Za8:∀(p a b:Ac),HT.lexLt (p++a) (p++b)=HT.lexLt a b
 | [],a,b=>rfl
 | x :: p,a,b=>by rw[Y1M,Y1M,HT.lexLt_cons,if_pos rfl,Za8 p]
theorem Zz98:∀ {s t:Ac} (a b:Ac),s.length=t.length->HT.lexLt s t=true->HT.lexLt (s++a) (t++b)=true
 | [],[],a,b,_,h=>by cases h
 | [],_ :: _,a,b,e,_=>by simp at e
 | _ :: _,[],a,b,e,_=>by simp at e
 | x :: s,y :: t,a,b,e,h=>by
  rw[HT.lexLt_cons]at h;rw[Y1M,Y1M,HT.lexLt_cons];split
  .rename_i q;rw[if_pos q]at h;exact Zz98 a b (by simpa using e) h
  .rename_i q;rwa[if_neg q]at h
theorem Zc11(h:lexS a b):a≠b:=λe=>by subst e;have:=lex_irrefl a;rw[h]at this;cases this
theorem Zz56{a:Ab}(h:a.Pairwise lexS):a.Nodup:=h.imp λh=>Zc11 h
theorem ZM3(m:Int):∀ k,∀ l∈cmb m k,l.length=k
 | 0,l,h=>by rw[Yy1.mp h];rfl
 | k+1,l,h=>by obtain⟨s,hs,hl⟩:=List.mem_flatMap.mp h;obtain⟨t,_,_,rfl⟩:=ext1_mem.mp hl;rw[Yy5,ZM3 m k s hs];rfl
theorem ZO6(m:Int):∀ k,(cmb m k).Pairwise lexS
 | 0=>Yy05 ..
 | k+1=>by
  show((cmb m k).flatMap (ext1 m)).Pairwise lexS;rw[List.pairwise_flatMap];refine⟨λs _=>?_,List.Pairwise.imp_of_mem (λ{s t} hs ht hst=>?_) (ZO6 m k)⟩
  .unfold ext1;rw[Yy24];refine Y1v.imp λ{i j} hij=>?_;show HT.lexLt _ _=true
   rw[Za8,HT.lexLt_cons,if_neg (by lia)];exact Yt (by lia)
  .intro x hx y hy;obtain⟨u,_,_,rfl⟩:=ext1_mem.mp hx;obtain⟨v,_,_,rfl⟩:=ext1_mem.mp hy;exact Zz98 _ _ (by rw[ZM3 m k s hs,ZM3 m k t ht]) hst
theorem ZF1{α:Type}[DecidableEq α]:∀ {l m:List α},l.Nodup->(∀ x∈l,x∈m)->l.length<=m.length
 | [],m,_,_=>Yl _
 | x :: l,m,h,hs=>by
  obtain⟨h1,h2⟩:=Y0p.mp h;have hx:=hs x Yk
  have:=ZF1 (l:=l) (m:=m.erase x) h2 λy hy=>(List.mem_erase_of_ne (λ(e:y=x)=>h1 (e ▸ hy))).mpr (hs y (Yi _ hy))
  rw[Y3i hx]at this
  have:=Y2d hx
  rw[Yz];grind
theorem Zz24(g:Zy n ps)(hT:Zf n ps T)(z0:0<=z)(z1:z<(ps.length:Int)):Conn (Zz7 ps (Zr12 n ps T z T)) (Zu ps z).1 (Zu ps z).2:=by
 have he:=Zf1 (z:=z) g z0 z1;have key:∀ D:Ac,(∀ o∈D,o∈T/\z∉cutT n ps T o)->Conn (Zz7 ps (T.filter λy=>decide (y∉D))) (Zu ps z).1 (Zu ps z).2:=by
  intro D
  induction D with
  | nil =>
   intro _;have e:(T.filter λy=>decide (y∉([]:Ac)))=T:=Y1R.mpr λy _=>by simp
   rw[e];exact hT.2.2 _ _ he.1 he.2
  | cons o D ih =>
   intro hD;have c:=ih λy hy=>hD y (Yi _ hy)
   obtain⟨hoT,hoc⟩:=hD o Yk;by_cases hoD:o∈D
   .refine c.mono (Zt λy hy=>?_);obtain⟨h1,h2⟩:=Yn.mp hy;have h2:=Yy h2
    exact Yn.mpr ⟨h1,Yt λh=>(Ye.mp h).elim (λe=>h2 (e ▸ hoD)) h2⟩
   .refine Yr λhno=>?_;have hsub:∀ y,y∈(T.filter λy=>decide (y∉o :: D))->y∈wo T o:=λy hy=>by
     obtain⟨h1,h2⟩:=Yn.mp hy;have h2:=Yy h2
     exact wo_mem.mpr ⟨h1,λe=>h2 (by rw[e];exact Yk)⟩
    have c2:Conn (Zz7 ps ((T.filter λy=>decide (y∉o :: D))++[o])) (Zu ps z).1 (Zu ps z).2:=(Zc1 λy=>by
     rw[Ya,Yn,Yn,Yy1];simp only [Y2G,Ye,not_or];constructor
     .rintro⟨h1,h2⟩;by_cases e:y=o
      .exact .inr e
      .exact .inl ⟨h1,e,h2⟩
     .rintro(⟨h1,_,h2⟩ | e)
      .exact⟨h1,h2⟩
      .rw[e];exact⟨hoT,hoD⟩).mp c
    have hall:∀ y∈(T.filter λy=>decide (y∉o :: D)),0<=y/\y<(ps.length:Int):=λy hy=>hT.1.all y (Yn.mp hy).1;obtain⟨o0,o1⟩:=hT.1.all o hoT;have hin:InN n.toNat (Zz7 ps (T.filter λy=>decide (y∉o :: D))):=ZT g hall
    have hin1:InN n.toNat (Zz7 ps ((T.filter λy=>decide (y∉o :: D))++[o])):=ZT g λy hy=>by
     rcases Ya.mp hy with h | h
     .exact hall y h
     .rw[Yy1.mp h];exact⟨o0,o1⟩
    have hoe:=Zf1 (z:=o) g o0 o1;have hl:=Zv n.toNat (Zz7 ps (T.filter λy=>decide (y∉o :: D)))
    have own:¬ Conn (Zz7 ps (wo T o)) (Zu ps o).1 (Zu ps o).2:=(Zz11 g hT o0 o1).mp ((ZI6 g hT hoT hoT).mpr rfl);have cw:Conn (Zz7 ps (wo T o)) (Zu ps z).1 (Zu ps z).2:=Yr λh=>hoc ((Zz11 g hT z0 z1).mpr h)
    have up:∀ {i j:Nat},i<n.toNat->j<n.toNat->mk (lms n.toNat (Zz7 ps (T.filter λy=>decide (y∉o :: D)))) i=mk (lms n.toNat (Zz7 ps (T.filter λy=>decide (y∉o :: D)))) j->Conn (Zz7 ps (wo T o)) i j:=λhi hj e=>((ZM hin hi hj).mp e).mono (Zt hsub);have m:=(ZM hin1 he.1 he.2).mpr c2
    rw[ZQ,ZZ,Zz36 (by lia) (by lia)]at m;rcases m with m | ⟨m1,m2⟩
    .exact hno ((ZM hin he.1 he.2).mp m)
    .rcases m1 with m1 | m1 <;> rcases m2 with m2 | m2
     .exact hno ((ZM hin he.1 he.2).mp (m1.trans m2.symm))
     .exact own (((up he.1 hoe.1 m1).symm.trans cw).trans (up he.2 hoe.2 m2))
     .exact own (((up he.2 hoe.1 m2).symm.trans cw.symm).trans (up he.1 hoe.2 m1))
     .exact hno ((ZM hin he.1 he.2).mp (m1.trans m2.symm))
 have c:=key (T.filter λy=>decide (z∉cutT n ps T y)) λo ho=>by obtain⟨h1,h2⟩:=Yn.mp ho;exact⟨h1,Yy h2⟩
 refine c.mono (Zt λy hy=>?_);obtain⟨h1,h2⟩:=Yn.mp hy;have h2:=Yy h2
 exact ringA_mem.mpr ⟨h1,Yr λh=>h2 (Yn.mpr ⟨h1,Yt h⟩)⟩
theorem ZW11{a b:Ac}(ha:a.Pairwise (· < ·))(hb:b.Pairwise (· < ·))(h:∀ z,z∈a↔z∈b):a=b :=
 (Zi3 ha hb λz hz=>(h z).mp hz).eq_of_length (Yy32 (Zi3 ha hb λz hz=>(h z).mp hz).length_le (Zi3 hb ha λz hz=>(h z).mpr hz).length_le)
end My
namespace L2
open PySem PySem.Spec PyProof.Rows
section
variable{prog:Program}{w:World}{A:Around}{E:Ae}{s:Shared}{l:Addr}{xs:Array (Int × Tok)}
theorem ZV4{Q:Ae}(hl:s.heap.IsTuple l (intItems xs))
  (h:∀ s₂:Shared,s₂={ s with heap:=s.heap.push { cls:=.type "tuple_iterator",data:=.fields #[.ref l,.int 0 0] } } ->
   (s₂.heap.IsTupleIter s.heap.objs.size l 0/\s₂.heap.IsTuple l (intItems xs))->(∀ b∈[s.heap.objs.size,l],b<s₂.heap.objs.size)->l≠s.heap.objs.size->Q (.ref s.heap.objs.size) s₂) :
  wpAny (model prog w) A (pyIter (.ref l)) Q E s:=by
 have hlt:l<s.heap.objs.size:=by obtain⟨_,e,_⟩:=hl;exact Yh e
 refine Y1D hl (h _ rfl ⟨⟨_,Yj _ rfl,rfl,rfl⟩,hl.push _⟩ (λb hb=>?_) (Yo hlt));show b<(s.heap.push _).objs.size
 rw[Y0n];rcases Ye.mp hb with rfl | hb
 .exact Y0i _
 .rcases Ye.mp hb with rfl | hb
  .exact Y0j hlt
  .cases hb
theorem Ze7 {h':Heap} (hk:∀ b o,b∉[s.heap.objs.size]->(s.heap.push { cls:=.type "tuple_iterator",data:=.fields #[.ref l,.int 0 0] }).get? b=some o->h'.get? b=some o) :
  ∀ b o,s.heap.get? b=some o->h'.get? b=some o:=λb o e=>by
 refine hk b o (λhm=>?_) (Yy4 _ e);rcases Ye.mp hm with e1 | hm
 .exact absurd (e1 ▸ Yh e) (Y0I _)
 .cases hm
theorem ZU5{Q:Ae}(hh:A.handled=none)(hl:s.heap.IsTuple l (intItems xs))(hne:0<xs.size)
  (h:∀ v h' tk,(intItems xs)[argBest (λi j=>decide (numAt xs i > numAt xs j)) (xs.size - 1)]?=some v->(∀ b o,s.heap.get? b=some o->h'.get? b=some o)->Q v { s with heap:=h',toks:=tk }) :
  wpAny (model prog w) A (call (.builtin "max") [.ref l]) Q E s:=by refine call_max_walk (ZV4 hl λs₂ e st hfp hlI=>?_);subst e;refine⟨_,_,_,_,_,_,_,rfl,Walks.tuple (A:=A.in1) hh _ l hlI (intItems xs),st,hfp,by simpa [intItems] using hne,CmpOf.ints_gt (numAt xs) (λ_ _=>intItems_at),λv h' tk hP hk=>?_⟩;exact h v h' tk (by simpa [intItems] using hP) (Ze7 hk)
end
section
variable{X:Cx}
theorem ZU6 (K:Ad) (hc:X.calm=true) (hk:X.K=K:=by rfl):Zg2 X (.builtin "max") (λxs H Q=>∃(p:Addr) (ns:Ac),xs=[.ref p]/\SqT K H p (ns.map V.int)/\0<ns.length/\∀ m:Int,m∈ns->(∀ a∈ns,a<=m)->Q (.int m) H):=by
 subst hk;intro pins s σ H xs us Q I r h;obtain⟨p,ns,rfl,hq,hn,q⟩:=h;obtain⟨u,rfl,ru⟩:=Zk3 r;obtain rfl:u=Value.ref p:=ru;obtain⟨its,rv,pl,hz⟩:=I.tuple hq;have hi:=ZA rv
 obtain⟨xs,e⟩:=hi.allInts.items;have hns:ns=xs.toList.map (·.1):=by rw[<- hi.numsOf,<- nums_intItems,<- e]
 have hsz:0<xs.size:=by rwa[hns,Yc,YA]at hn
 have hl:s.heap.IsTuple p its.toArray:=pl;rw[e]at hl;refine ZU5 (I.ok.hd hc) hl hsz λv h' tk hv hk=>?_;obtain⟨t,rfl⟩:=intItems_at hv;obtain⟨h1,h2⟩:=argBest_gt (numAt xs) (xs.size - 1);refine⟨.int _,H,I.kept (t':=tk) hk,⟨t,rfl⟩,q _ ?_ λa ha=>?_⟩
 .rw[hns,numAt_eq];exact getD_mem (by rw[Yc,YA];omega)
 .rw[hns]at ha;obtain⟨j,hj,rfl⟩:=mem_getD ha;rw[Yc,YA]at hj;rw[<- numAt_eq];exact h2 j (by omega)
end
end L2
namespace My
open PySem L2
theorem ZA4{i:Int}(h0:0<=i):cutV xs (some i) none=xs.drop i.toNat:=by
 have e:HT.sIx xs.length 0 (some i)=min i.toNat xs.length:=by show(if i<0 then (i+(xs.length:Int)).toNat else min i.toNat xs.length)=_;rw[if_neg (by lia)]
 unfold cutV;rw[e,HT.sIx_none,Yy08 (by rw[Y1g];exact Yy6 _)];by_cases h:i.toNat<=xs.length
 .rw[Nat.min_eq_left h]
 .rw[Nat.min_eq_right (by lia),Y0Y (Yy6 _),Y0Y (by omega)]
def cutz{α:Type}(l:List α)(z:Int):List α:=l.take z.toNat++l.drop (z.toNat+1)
theorem ZN13{z:Int}(h0:0<=z):cutV xs none (some z)++cutV xs (some (z+1)) none=cutz xs z:=by rw[ZG6 h0,ZA4 (by lia),show(z+1).toNat=z.toNat+1 by lia];rfl
theorem ZU9{α:Type}(l:List α)(z:Int):(cutz l z).length<=l.length:=by unfold cutz;rw[Yy5,YI,Y1g];grind
def dn(lo hi i:Int):Int:=if i=hi then lo else if i<hi then i else i - 1
end My
namespace L2
open PySem PySem.Spec PyProof.Rows
section
variable{X:Cx}
def rIxQ(K:Ad):R2:=λx y H Q=>∃(k:Bool) (p:Addr) (xs:List V) (i:Int) (v:V),x=.ref p/\y=.int i/\My.SqK k K H p xs/\atI xs i=some v/\Q v H
theorem Zg4(K:Ad)(h:X.K=K:=by rfl):IxR X (rIxQ K):=by
 intro value slice pins s σ H x y v u Q I rx ry h1 hs;obtain⟨k,p,xs,i,z,e1,e2,hq,he,q⟩:=h1;cases k with
 | false=>exact Zj K h value slice pins s σ H x y v u Q I rx ry ⟨p,xs,i,z,e1,e2,hq,he,q⟩ hs
 | true=>exact ZD K h value slice pins s σ H x y v u Q I rx ry ⟨p,xs,i,z,e1,e2,hq,he,q⟩ hs
end
theorem ZP5{N a b:St->Hp->Prop}{r:VK}{σ:St}{H:Hp}(h:N σ H):Ends.nx { nx:=N,rt:=r,bk:=a,ct:=b } σ H:=h
theorem ZO13{N a b:St->Hp->Prop}{r:VK}{σ:St}{H:Hp}(P:St->Hp->Prop)(h1:∀ σ' H',P σ' H'->N σ' H')(h2:∀ K:St->Hp->Prop,(∀ σ' H',P σ' H'->K σ' H')->tIfS c t u { nx:=K,rt:=r,bk:=a,ct:=b } σ H):tIfS c t u { nx:=N,rt:=r,bk:=a,ct:=b } σ H:=h2 _ h1
end L2
namespace My
theorem len1{α:Type}{l:List α}(h:l.length=1):∃ a,l=[a]:=by
 cases l with
 | nil=>cases h
 | cons a l=>cases l with
  | nil=>exact⟨a,rfl⟩
  | cons b l=>simp at h
theorem len2{α:Type}{l:List α}(h:l.length=2):∃ a b,l=[a,b]:=by
 cases l with
 | nil=>cases h
 | cons a l =>
  obtain⟨b,rfl⟩:=len1 (Yy19 h);exact⟨a,b,rfl⟩
theorem len3{α:Type}{l:List α}(h:l.length=3):∃ a b c,l=[a,b,c]:=by
 cases l with
 | nil=>cases h
 | cons a l =>
  obtain⟨b,c,rfl⟩:=len2 (Yy19 h);exact⟨a,b,c,rfl⟩
theorem len4{α:Type}{l:List α}(h:l.length=4):∃ a b c d,l=[a,b,c,d]:=by
 cases l with
 | nil=>cases h
 | cons a l =>
  obtain⟨b,c,d,rfl⟩:=len3 (Yy19 h);exact⟨a,b,c,d,rfl⟩
end My
namespace L2
open PySem PySem.Spec PyProof.Rows
section
variable{X:Cx}
def Zw13:R2:=λx y H Q=>∃ a b xs ys,x=.ref a/\y=.ref b/\H a=some (.tup xs)/\H b=some (.tup ys)/\xs.length+ys.length<=sizeLine/\∀(r:Addr) (H':Hp),Same H H'->H' r=some (.tup (xs++ys))->Q (.ref r) H'
theorem Zz48(K:Ad)(hk:X.K=K:=by rfl):OpR X (binaryOp .Add) Zw13:=by
 intro pins s σ H x y v u Q I rx ry h;obtain⟨a,b,xs,ys,e1,e2,ha,hb,hz,q⟩:=h;refine Zz42 K hk pins s σ H x y v u Q I rx ry ⟨a,b,xs,ys,e1,e2,SqT.of ha,SqT.of hb,hz,λhx=>?_,λ_ hy=>?_,λ_ _ p hp=>q p _ (My.same_at hp) Zz1⟩
 .subst hx;exact q b H (Same.refl H) hb
 .subst hy;exact q a H (Same.refl H) (by rwa[YO])
end
end L2
namespace My
open PySem L2
theorem Conn.lift(h:∀ e∈es,Conn fs e.1 e.2)(c:Conn es i j):Conn fs i j:=by
 induction c with
 | refl i=>exact .refl i
 | edge e=>exact h _ e
 | symm _ ih=>exact ih.symm
 | trans _ _ ih1 ih2=>exact ih1.trans ih2
theorem Zz13(g:Zy n ps)(hT:Zf n ps T)(hW:Zf n ps W)(hz:z∈T)(hzW:z∉W):∃ y,exg n ps T z y/\exg n ps W y z:=by
 obtain⟨z0,z1⟩:=hT.1.all z hz;refine Yr λhno=>?_;refine(Zz11 g hT z0 z1).mp ((ZI6 g hT hz hz).mpr rfl) ((Zz24 g hW z0 z1).lift λe he=>?_);unfold Zz7 at he;obtain⟨y,hy,rfl⟩:=Yx.mp he;obtain⟨hyW,hyc⟩:=ringA_mem.mp hy;obtain⟨y0,y1⟩:=hW.1.all y hyW;have hyz:y≠z:=λe=>hzW (e ▸ hyW)
 have:=(Zz11 (o:=z) g hT y0 y1)
 exact Yr λh=>hno ⟨y,⟨hz,hyz,this.mpr h⟩,⟨hyW,YR hyz,hyc⟩⟩
theorem Zs5(l:Ac):∃ m:Ac,m.Perm l/\m.Pairwise (·<=·):=by
 induction l with
 | nil=>exact⟨[],.refl _,.nil⟩
 | cons x l ih =>
  obtain⟨m,h1,h2⟩:=ih;have key:∀ m:Ac,m.Pairwise (·<=·)->∃ k:Ac,k.Perm (x :: m)/\k.Pairwise (·<=·):=by
   intro m
   induction m with
   | nil=>intro _;exact⟨[x],.refl _,Yy05 _ _⟩
   | cons y m ih2 =>
    intro hp;obtain⟨hy,hm⟩:=Yy03.mp hp;by_cases hxy:x<=y
    .refine⟨x :: y :: m,.refl _,Yy03.mpr ⟨λz hz=>?_,hp⟩⟩;rcases Ye.mp hz with e | e
     .rw[e];exact hxy
     .exact Yy22 hxy (hy z e)
    .obtain⟨k,k1,k2⟩:=ih2 hm;refine⟨y :: k,(k1.cons y).trans (List.Perm.swap x y m),Yy03.mpr ⟨λz hz=>?_,k2⟩⟩;rcases Ye.mp (k1.mem_iff.mp hz) with e | e
     .rw[e];lia
     .exact hy z e
  obtain⟨k,k1,k2⟩:=key m h2;exact⟨k,k1.trans (h1.cons x),k2⟩
end My
namespace L2
open PySem PySem.Spec PyProof.Rows
section
variable{X:Cx}
theorem Zz65 (K:Ad) (hk:X.K=K:=by rfl):Zg2 X (.type "tuple") (λxs H Q=>∃(p:Addr) (ys:List V),xs=[.ref p]/\(H p=some (.tup ys)\/SqL K H p ys)/\∀(r:Addr) (H':Hp),Same H H'->H' r=some (.tup ys)->Q (.ref r) H'):=by
 intro pins s σ H xs us Q I r h;obtain⟨p,ys,rfl,hq,q⟩:=h;refine ZE1 K hk pins s σ H _ us Q I r ⟨p,ys,rfl,?_⟩;rcases hq with hq | hq
 .exact .inr ⟨SqT.of hq,q p H (Same.refl H) hq⟩
 .exact .inl ⟨hq,λl hl=>q l _ (My.same_at hl) Zz1⟩
end
end L2
namespace My
open PySem L2
theorem Za3(g:Zy n ps)(hU:Zf n ps U):∀ V:Ac,V.Nodup->(∀ z∈V,z∈U)->grw n.toNat ps V=V:=by
 refine ZR (λ_ _=>rfl) λV z ih hn hs=>?_;have hn':=Y0d.mp hn
 have hV:∀ y∈V,y∈U:=λy hy=>hs y (Yg _ hy);have hz:z∈U:=hs z (Yb _ (Yy1.mpr rfl))
 have hzV:z∉V:=λh=>hn'.2.2 z h z (Yy1.mpr rfl) rfl;obtain⟨z0,z1⟩:=hU.1.all z hz;have he:=Zf1 (z:=z) g z0 z1
 rw[Zz01,ih hn'.1 hV];unfold gst;rw[if_neg];intro e;have c:=(ZM (ZT g λy hy=>hU.1.all y (hV y hy)) he.1 he.2).mp e
 exact(Zz11 g hU z0 z1).mp ((ZI6 g hU hz hz).mpr rfl) (c.mono (Zt λy hy=>wo_mem.mpr ⟨hV y hy,λe'=>hzV (by rwa[<- e'])⟩))
theorem ZE9{as bs:Ac}(g:Zy n ps)(h:∀ y∈as,0<=y/\y<(ps.length:Int))(z0:0<=z)(z1:z<(ps.length:Int))(hz:z∉grw n.toNat ps (as++z :: bs)):Conn (Zz7 ps (grw n.toNat ps as)) (Zu ps z).1 (Zu ps z).2:=by
 obtain⟨us,e,_⟩:=Zk4 n.toNat ps (as++[z]) bs;rw[Yy09]at e;have e:grw n.toNat ps (as++z :: bs)=grw n.toNat ps (as++[z])++us:=e
 rw[e,Zz01]at hz;have he:=Zf1 (z:=z) g z0 z1
 refine(ZM (ZZ4 g h) he.1 he.2).mp (Yr λhne=>hz ?_);unfold gst;rw[if_neg hne];exact Yg _ (Yb _ (Yy1.mpr rfl))
theorem ZD9{as bs:Ac}{y:Int}(h:y∈grw n ps as):y∈grw n ps (as++bs):=by obtain⟨us,e,_⟩:=Zk4 n ps as bs;rw[e];exact Yg _ h
theorem ZD4{m:Nat}(hm:m<=12):∀ k,(cmb (m:Int) k).length<=12 ^ k
 | 0=>Yy6 1
 | k+1=>by
  have h1:=Zr6 (m:=m) (cmb (m:Int) k) λs hs=>(cmb_mem.mp hs).2;have h2:=ZD4 hm k
  have h3:m * (cmb (m:Int) k).length<=12 * 12 ^ k:=Y1E hm h2;rw[Nat.pow_succ,Y2S];exact YD h1 h3
def Fr(n:Nat)(ps:Aa)(l:Ac):Bool:=decide (grw n ps l=l)
theorem fr_snoc:Fr n ps (l++[z])=true↔Fr n ps l=true/\mk (lms n (Zz7 ps l)) (Zu ps z).1≠mk (lms n (Zz7 ps l)) (Zu ps z).2:=by
 unfold Fr;rw[YH,YH,Zz01];constructor
 .intro h;unfold gst at h;split at h
  .have:=(Zz93 n ps l).length_le
   rw[h,Yy5]at this;have h1:[z].length=1:=rfl
   lia
  .rename_i hne;have e:=(List.append_inj' h rfl).1
   rw[e]at hne;exact⟨e,hne⟩
 .rintro⟨e,hne⟩;rw[e];unfold gst;rw[if_neg hne]
def frs(n:Nat)(ps:Aa)(k:Nat):Ab:=(cmb (ps.length:Int) k).filter (Fr n ps)
theorem Zz15{α β:Type}(p:β->Bool)(f:α->List β)(l:List α):(l.flatMap f).filter p=l.flatMap λa=>(f a).filter p:=by
 induction l with
 | nil=>rfl
 | cons a l ih=>rw[Y1B,Y1B,Yy04,ih]
theorem Zo6(n:Nat)(ps:Aa)(k:Nat):frs n ps (k+1)=(frs n ps k).flatMap λl=>(ext1 (ps.length:Int) l).filter (Fr n ps):=by
 unfold frs;show((cmb (ps.length:Int) k).flatMap (ext1 (ps.length:Int))).filter (Fr n ps)=_
 rw[Zz15,<- Zo2];refine YZ (λf=>List.flatMap f (cmb (ps.length:Int) k)) (funext λl=>?_);cases h:Fr n ps l with
 | true=>rfl
 | false =>
  show _=[];refine Y3w.mpr λl' hl' hf=>?_;obtain⟨t,_,_,rfl⟩:=ext1_mem.mp hl';rw[(fr_snoc.mp hf).1]at h;cases h
theorem Zn6(g:Zy n ps):l∈frs n.toNat ps (n - 1).toNat↔Zf n ps l:=by
 unfold frs;rw[Yn,cmb_mem];have g1:=g.1
 constructor
 .rintro⟨⟨h1,h2⟩,h3⟩;have e:grw n.toNat ps l=l:=Yy h3
  have c:=Zj4 g l h2.all;rw[e]at c;exact⟨h2,by lia,(Zz21 (by grind) (ZT g h2.all)).mp (by grind)⟩
 .intro h;exact⟨⟨by have:=h.2.1;lia,h.1⟩,Yt (Za3 g h l h.1.nodup λz hz=>hz)⟩
theorem Zw11(h:l∈frs n ps k):l.length=k/\IsSet ps.length l/\Fr n ps l=true:=by obtain⟨h1,h2⟩:=Yn.mp h;obtain⟨h3,h4⟩:=cmb_mem.mp h1;exact⟨h3,h4,h2⟩
theorem ZL12{a:Int}(h:s.Pairwise (· < ·))(ha:a∈s):a<nxt s:=by
 refine ZR (P:=λs=>∀ {a:Int},s.Pairwise (· < ·)->a∈s->a<nxt s) (λ{a} _ h=>by cases h) (λl x ih {a} hp h=>?_) s h ha;rw[ZO5];rw[YY]at hp;rcases Ya.mp h with h | h
 .have:=hp.2.2 a h x (by simp);omega
 .rw[Yy1.mp h];lia
theorem Zz811{x:Int}(hI:IsSet m l)(h1:x∈-1 :: l)(h2:∀ y∈-1 :: l,y<=x):x+1=nxt l:=by
 have hp:=(isSet_iff.mp hI).2;cases e:l.getLast? with
 | none =>
  have:l=[]:=List.getLast?_eq_none_iff.mp e
  subst this
  have:x=-1:=by simpa using h1
  rw[this];rfl
 | some y =>
  have hy:=Y1b e;have e2:nxt l=y+1:=by unfold nxt;rw[e]
  have a1:=h2 y (Yi _ hy);have a2:=(hI.all y hy).1
  rcases Ye.mp h1 with h | h
  .omega
  .have:=ZL12 hp h
   lia
theorem Zm5(hT:Zf n ps T):T.Pairwise (· < ·):=(isSet_iff.mp hT.1).2
theorem srt_strict{a:Ac}(h:a.Pairwise (·<=·))(hn:a.Nodup):a.Pairwise (· < ·):=(h.and hn).imp λh=>by have:=h.1;have:=h.2;lia
theorem ZF2(g:Zy n ps):∀ zs:Ac,(∀ z∈zs,0<=z/\z<(ps.length:Int))->(grw n.toNat ps zs).Nodup:=by
 refine ZR (λ_=>List.Pairwise.nil) λzs z ih hb=>?_;have hb':∀ y∈zs,0<=y/\y<(ps.length:Int):=λy hy=>hb y (Yg _ hy)
 obtain⟨z0,z1⟩:=hb z (Yb _ (Yy1.mpr rfl));have he:=Zf1 (z:=z) g z0 z1
 rw[Zz01];unfold gst;split
 .exact ih hb'
 .next hne =>
  refine Y0d.mpr ⟨ih hb',by simp,λa ha b hbb e=>?_⟩;rw[Yy1.mp hbb]at e;subst e;refine hne ((ZM (ZZ4 g hb') he.1 he.2).mpr (.edge ?_));exact Yx.mpr ⟨a,ha,rfl⟩
theorem ZY4(g:Zy n ps)(hb:∀ z∈zs,0<=z/\z<(ps.length:Int))(hl:¬ ((grw n.toNat ps zs).length:Int)<n - 1)(hpm:ms.Perm (grw n.toNat ps zs))(hpw:ms.Pairwise (·<=·)):Zf n ps ms:=by
 have g1:=g.1;have h2:=Zj4 g zs hb
 have h3:=ZM6 (M:=lms n.toNat (Zz7 ps (grw n.toNat ps zs))) (by rw[Zv];grind);have hcov:=(Zz21 (by grind) (ZZ4 g hb)).mp (by grind)
 refine⟨isSet_iff.mpr ⟨λz hz=>hb z ((Zz93 _ _ _).subset (hpm.mem_iff.mp hz)),srt_strict hpw (hpm.nodup_iff.mpr (ZF2 g zs hb))⟩,by rw[hpm.length_eq];grind,λi j hi hj=>?_⟩;exact(Zc1 λy=>hpm.mem_iff).mpr (hcov i j hi hj)
theorem Zs11{I os U:Ac}(g:Zy n ps)(hU:Zf n ps U)(hI:I.Nodup)(hIU:∀ z∈I,z∈U)(hUo:∀ z∈U,z∈I++os)(hb:∀ z∈I++os,0<=z/\z<(ps.length:Int)):(grw n.toNat ps (I++os)).take I.length=I/\¬ ((grw n.toNat ps (I++os)).length:Int)<n - 1:=by
 have g1:=g.1;obtain⟨us,e,_⟩:=Zk4 n.toNat ps I os;rw[Za3 g hU I hI hIU]at e;refine⟨by rw[e,List.take_left],?_⟩;have hcov:∀ i j,i<n.toNat->j<n.toNat->Conn (Zz7 ps (grw n.toNat ps (I++os))) i j:=λi j hi hj=>ZF9 g _ hb ((hU.2.2 i j hi hj).mono (Zt hUo))
 have h1:=(Zz21 (by lia) (ZZ4 g hb)).mpr hcov;have h2:=Zj4 g (I++os) hb
 grind
theorem ZN7{p r:Ac}{x:Int}(h:(p++x :: r).Pairwise (· < ·)):(∀ z∈p,z<x)/\∀ z∈x :: r,x<=z:=by
 have a:=YY.mp h;refine⟨λz hz=>a.2.2 z hz x Yk,λz hz=>?_⟩;rcases Ye.mp hz with h | h
 .rw[h];exact Y0G _
 .exact Y2Y ((Yy03.mp a.2.1).1 z h)
end My
namespace L2
open PySem PySem.Spec PyProof.Rows
def Zx13(K:Ad):R2:=λx y H Q=>∃ l b xs zs,x=.ref l/\y=.ref b/\SqL K H l xs/\SqL K H b zs/\xs.length+zs.length<=sizeLine/\∀ p,H p=none->Q (.ref p) (upd H p (.lst (xs++zs)))
section
variable{X:Cx}
theorem Zz94(K:Ad)(hk:X.K=K:=by rfl):OpR X (binaryOp .Add) (Zx13 K):=by
 subst hk;intro pins s σ H x y v u Q I rx ry h;obtain⟨l,b,xs,zs,rfl,rfl,hH,hB,hz,q⟩:=h;cases rx;cases ry;obtain⟨its,r,p,_⟩:=I.list hH;obtain⟨its2,r2,p2,_⟩:=I.list hB;have l1:=r.length
 have l2:=r2.length;obtain⟨⟨cls,dd,data,sl⟩,ho,hc,n,hd⟩:=id p.isList;obtain⟨⟨cls2,dd2,data2,sl2⟩,ho2,hc2,n2,hd2⟩:=id p2.isList;simp only at hc hd hc2 hd2;subst hc hd hc2 hd2;have e:its.toArray++its2.toArray=(its++its2).toArray:=by simp
 refine Y3s ⟨_,ho,rfl⟩ ⟨_,ho2,rfl⟩ noFill_list_add seq_list_add PySem.F.slot_list_add PySem.F.entry_list_add (PySem.F.args_list_add_2 _ _) (list_addW l b its.toArray its2.toArray n n2 dd dd2 sl sl2 (by rw[Yy9,Yy9];grind)) ⟨ho,ho2,?_⟩;rw[e];exact⟨.ref _,_,I.lnew (t':=s.toks) (r.append r2) (by rw[Yy5];lia),rfl,q _ I.fresh⟩
end
end L2
namespace My
open PySem L2
def TC(n:Int)(ps:Aa)(c:Nat):Prop:=∃ L:Ab,L.Nodup/\(∀ l,l∈L↔Zf n ps l)/\L.length=c
theorem set_snoc:IsSet (m+1) (T++[(m:Int)])↔IsSet m T:=by
 constructor
 .intro h;have a:=isSet_iff.mp h
  have b:=YY.mp a.2;refine isSet_iff.mpr ⟨λz hz=>?_,b.1⟩;have c:=a.1 z (Yg _ hz)
  have d:=b.2.2 z hz m (Yy1.mpr rfl);omega
 .exact λh=>h.snoc
theorem Zx5(h:IsSet (m+1) T):IsSet m T\/∃ T',T=T'++[(m:Int)]/\IsSet m T':=by
 have a:=isSet_iff.mp h;by_cases hm:(m:Int)∈T
 .obtain⟨p,r,e⟩:=List.append_of_mem hm;have b:=ZN7 (e ▸ a.2)
  cases r with
  | nil=>exact .inr ⟨p,e,set_snoc.mp (e ▸ h)⟩
  | cons y r =>
   have h1:=a.1 y (by rw[e];simp);have h2:=(Yy03.mp (YY.mp (e ▸ a.2)).2.1).1 y Yk
   omega
 .refine .inl (isSet_iff.mpr ⟨λz hz=>?_,a.2⟩);have h1:=a.1 z hz
  have h2:z≠(m:Int):=λe=>hm (e ▸ hz);lia
theorem ZC4{es:List (Nat × Nat)}{a b i j:Nat}(c:Conn (es++[(a,b)]) i j):Conn (es++[(b,a)]) i j:=c.lift λe he=>by
 rcases Ya.mp he with q | q
 .exact .edge (Yg _ q)
 .rw[Yy1.mp q];exact .symm (.edge (by simp))
theorem Bears.app{α:Type}[DecidableEq α]{R:V->α->Prop}{xs ys:List V}{l m:List α}(h:Bears R xs l)(h2:Bears R ys m):Bears R (xs++ys) (l++m):=by
 refine⟨by rw[Yy5,Yy5,h.1,h2.1],λi a e=>?_⟩;have hl:=h.1
 by_cases c:i<l.length
 .rw[Yu c]at e;obtain⟨x,e1,r⟩:=h.2 i a e;exact⟨x,by rw[Yu (by lia)];exact e1,r⟩
 .rw[Yv (by lia)]at e;obtain⟨x,e1,r⟩:=h2.2 _ a e;exact⟨x,by rw[Yv (by lia),hl];exact e1,r⟩
theorem PairsV.set(h:PairsV H xs ps)(i:Nat)(q:PairV H v p):PairsV H (xs.set i v) (ps.set i p):=by
 refine⟨by rw[Y0y,Y0y];exact h.1,λj x e=>?_⟩;have hl:=h.1
 by_cases c:i=j
 .subst c;rw[Y0v]at e;rw[if_pos rfl]at e;by_cases hlt:i<ps.length
  .rw[if_pos hlt]at e;obtain rfl:=Yd e;exact⟨v,by rw[Y0v,if_pos rfl,if_pos (by lia)],q⟩
  .rw[if_neg hlt]at e;cases e
 .rw[Y0v,if_neg c]at e;obtain⟨w,e1,r⟩:=h.2 j x e;exact⟨w,by rw[Y0v,if_neg c];exact e1,r⟩
end My
namespace L2
open PySem PySem.Spec PyProof.Rows
def Itz(K:Ad)(a b:Addr):It :=
 ⟨λi H=>∃ xs ys x y,SqL K H a xs/\SqL K H b ys/\xs[i]?=some x/\ys[i]?=some y,λi H v H'=>∃ T x y,H T=none/\v=.ref T/\H'=upd H T (.tup [x,y])/\(∀ xs,SqL K H a xs->xs[i]?=some x)/\∀ ys,SqL K H b ys->ys[i]?=some y,
  λi H=>∃ xs ys,SqL K H a xs/\SqL K H b ys/\(xs.length<=i\/ys.length<=i)⟩
theorem Zh5{P:Program}{w:World}{K:Ad}{elts:List Expr}{x1:Nat}{pos:Pos}(a b z TI TO i1 i2:Addr)(D:ZipApart z TI TO i1 i2 a b) :
  Turn P w K (.Tuple elts x1 pos) (Itz K a b) [z,TI,TO,i1,i2] z (λi h=>IsZip h z TI TO .none/\IsPair h TI (.ref i1) (.ref i2)/\(∃ c d,IsPair h TO c d)/\h.IsListIter i1 a i/\h.IsListIter i2 b i) where
 mem:=by simp
 obj:=λi h st c hc=>by
  obtain⟨hz,hTI,⟨u,v,hTO⟩,⟨o1,e1,_,d1⟩,⟨o2,e2,_,d2⟩⟩:=st;have hc':c=z\/c=TI\/c=TO\/c=i1\/c=i2:=by simpa using hc
  rcases hc' with rfl | rfl | rfl | rfl | rfl
  .exact⟨_,hz,λv q=>by have q':Data.fields _=Data.cell v:=q;cases q'⟩
  .exact⟨_,hTI,λv q=>by have q':Data.seq _ _=Data.cell v:=q;cases q'⟩
  .exact⟨_,hTO,λv q=>by have q':Data.seq _ _=Data.cell v:=q;cases q'⟩
  .exact⟨o1,e1,λv q=>by rw[d1]at q;cases q⟩
  .exact⟨o2,e2,λv q=>by rw[d2]at q;cases q⟩
 keep:=λi h h' st k=>by obtain⟨hz,hTI,⟨u,v,hTO⟩,h1,h2⟩:=st;exact⟨k z (by simp) _ hz,k TI (by simp) _ hTI,⟨u,v,k TO (by simp) _ hTO⟩,h1.at λo e=>k i1 (by simp) o e,h2.at λo e=>k i2 (by simp) o e⟩
 item:=by
  intro X hP hw hK hc i pins s σ H E I hf st hg;subst hP hw hK;obtain⟨xs,ys,x,y,hq,hq2,hx,hy⟩:=hg;obtain⟨hz,hTI,⟨u0,v0,hTO⟩,h1,h2⟩:=st;obtain⟨its,rv,p,_⟩:=I.list hq;obtain⟨u,hu,ru⟩:=rv.get hx;obtain⟨its2,rv2,p2,_⟩:=I.list hq2;obtain⟨v,hv,rv'⟩:=rv2.get hy;have fz:=hf z (by simp)
  have fTO:=hf TO (by simp);have fi1:=hf i1 (by simp)
  have fi2:=hf i2 (by simp);have hT0:H s.heap.objs.size=none:=I.hok.fresh (Yy6 _)
  refine wpAny_pyNext_zip_item D hz hTI hTO h1 h2 p.isList p2.isList (x:=u) (y:=v) (by simpa using hu) (by simpa using hv) λh' a1 a2 a3 a4 a5 hsz hk=>?_;have ltT:∀ b ob,s.heap.get? b=some ob->b≠s.heap.objs.size:=λb ob z=>Yo (Yh z)
  have ltH:∀ b ob,H b=some ob->b≠s.heap.objs.size:=λb ob z=>Yo (I.hok.lt z);have nof:∀ c ob,H c=some ob->c≠z/\c≠TO/\c≠i1/\c≠i2:=λc ob q=>⟨λe=>(by rw[e,fz.1]at q;cases q),λe=>(by rw[e,fTO.1]at q;cases q),λe=>(by rw[e,fi1.1]at q;cases q),λe=>(by rw[e,fi2.1]at q;cases q)⟩
  have hkc:∀ c o,c∉[z,TO,i1,i2]->s.heap.get? c=some o->h'.get? c=some o:=λc o hcx q=>hk c o (λe=>hcx (by simp[e])) (λe=>hcx (by simp[e])) (λe=>hcx (by simp[e])) (λe=>hcx (by simp[e])) q;have I1:Inv X pins σ (upd H s.heap.objs.size (.tup [x,y])) { s with heap:=h' }:=by
   refine I.step (g':=s.gens) (d':=s.drawn) (t':=s.toks) (ch:=[z,TO,i1,i2]) (λc hb=>?_) (λc o _ _ hcx q _=>hkc c o hcx q) (λc o _ _ hcx q _=>⟨o.slots,hkc c o hcx q⟩)
    (λc o _ q n=>by rwa[Zz9 (ltT c o q)]) (λc o hcx q=>⟨o,hkc c o hcx q⟩) (λc ys q=>by rwa[Zz9 (ltH c _ q)]) (λc o v q=>by rwa[Zz9 (ltH c _ q)])
    (λc ps q=>⟨#[],by rw[Zz9 (ltH c _ q),q];simp⟩) (λm hm=>?_) (λc v' q=>?_) I.bare
   .have hc':c=z\/c=TO\/c=i1\/c=i2:=by simpa using hb
    rcases hc' with rfl | rfl | rfl | rfl
    .exact⟨fz.2.2.2.1,fz.2.1,fz.2.2.2.2.1,fz.2.2.2.2.2⟩
    .exact⟨fTO.2.2.2.1,fTO.2.1,fTO.2.2.2.2.1,fTO.2.2.2.2.2⟩
    .exact⟨fi1.2.2.2.1,fi1.2.1,fi1.2.2.2.2.1,fi1.2.2.2.2.2⟩
    .exact⟨fi2.2.2.2.1,fi2.2.1,fi2.2.2.2.2.1,fi2.2.2.2.2.2⟩
   .obtain⟨o,es,ep,ho',r⟩:=hm;exact⟨o,es,ep,hk _ o (YR fz.2.1) (YR fTO.2.1) (YR fi1.2.1) (YR fi2.2.1) ho',r⟩
   .by_cases hb:c=s.heap.objs.size
    .subst hb;rw[Zz1]at q;cases q;exact⟨by show 2<=sizeLine;decide,[u,v],.cons ru (.cons rv' .nil),⟨_,a5,rfl,_,rfl⟩⟩
    .rw[Zz9 hb]at q;refine(I.hok c v' q).stay (λe w' hc' q'=>?_) (λe q=>by rwa[Zz9 (ltH e _ q)]) λe ys q=>by rwa[Zz9 (ltH e _ q)]
     rcases hc' with rfl | hc'
     .have:=nof e _ q
      exact hk e w' this.1 this.2.1 this.2.2.1 this.2.2.2 q'
     .have:=nof e _ hc'
      exact hk e w' this.1 this.2.1 this.2.2.1 this.2.2.2 q'
  refine⟨_,rfl,wpAny_letOwnedTupleGo_zip a1 λh2 hz2 hs2=>?_⟩;have fT:z≠s.heap.objs.size:=ltT z _ hz
  have I2:Inv X pins σ (upd H s.heap.objs.size (.tup [x,y])) { s with heap:=h2 }:=Inv.turned (s:={ s with heap:=h' }) (h':=h2) (t':=s.toks) (it:=z) I1 (λb o hb q=>hs2.extBut b o hb q) (by rw[Zz9 fT];exact fz.1) fz.2.1 fz.2.2.2.1 fz.2.2.2.2.1 fz.2.2.2.2.2;refine⟨.ref s.heap.objs.size,_,I2,rfl,⟨_,x,y,hT0,rfl,rfl,λys hy'=>by rw[I.list_inj hy' hq];exact hx,λys hy'=>by rwa[I.list_inj hy' hq2]⟩,
   ⟨hz2,hs2.extBut _ _ D.TIz (hkc _ _ (by have:=D.TIz;have:=D.TITO;have:=D.TIi1;have:=D.TIi2;simp;exact⟨D.TIz,D.TITO,D.TIi1,D.TIi2⟩) hTI),⟨u,v,hs2.extBut _ _ D.TOz a2⟩,a3.at λo q=>hs2.extBut i1 o D.i1z q,a4.at λo q=>hs2.extBut i2 o D.i2z q⟩,λc hc=>?_⟩
  have hc':c=z\/c=TI\/c=TO\/c=i1\/c=i2:=by simpa using hc
  have hn:=(hf c hc).1;rcases hc' with rfl | rfl | rfl | rfl | rfl
  .rw[Zz9 fT];exact hn
  .rw[Zz9 (ltT _ _ hTI)];exact hn
  .rw[Zz9 (ltT _ _ hTO)];exact hn
  .obtain⟨o,eo,_⟩:=h1;rwa[Zz9 (ltT _ o eo)]
  .obtain⟨o,eo,_⟩:=h2;rwa[Zz9 (ltT _ o eo)]
 done:=by
  intro X hP hw hK hc i pins s σ H E I hf st hg;subst hP hw hK;obtain⟨xs,ys,hq,hq2,hend⟩:=hg;obtain⟨hz,hTI,⟨u0,v0,hTO⟩,h1,h2⟩:=st;obtain⟨its,rv,p,_⟩:=I.list hq;obtain⟨its2,rv2,p2,_⟩:=I.list hq2;have l1:=rv.length
  have l2:=rv2.length;have fz:=hf z (by simp)
  have fTO:=hf TO (by simp);have fi1:=hf i1 (by simp)
  have fi2:=hf i2 (by simp);refine wpAny_pyNext_zip_end (I.ok.hd hc) D hz hTI hTO h1 h2 p.isList p2.isList (by
   rcases hend with e | e
   .exact .inl (by simp;lia)
   .exact .inr (by simp;lia)) λh' hk=>⟨rfl,?_⟩
  have hkc:∀ c o,c∉[z,TO,i1,i2]->s.heap.get? c=some o->h'.get? c=some o:=λc o hcx q=>hk c o (λe=>hcx (by simp[e])) (λe=>hcx (by simp[e])) (λe=>hcx (by simp[e])) (λe=>hcx (by simp[e])) q;have nof:∀ c ob,H c=some ob->c≠z/\c≠TO/\c≠i1/\c≠i2:=λc ob q=>⟨λe=>(by rw[e,fz.1]at q;cases q),λe=>(by rw[e,fTO.1]at q;cases q),λe=>(by rw[e,fi1.1]at q;cases q),λe=>(by rw[e,fi2.1]at q;cases q)⟩
  refine I.step (g':=s.gens) (d':=s.drawn) (t':=s.toks) (ch:=[z,TO,i1,i2]) (λc hb=>?_) (λc o _ _ hcx q _=>hkc c o hcx q) (λc o _ _ hcx q _=>⟨o.slots,hkc c o hcx q⟩)
   (λc o _ q n=>n) (λc o hcx q=>⟨o,hkc c o hcx q⟩) (λc ys q=>q) (λc o v q=>q)
   (λc ps q=>⟨#[],by rw[q];simp⟩) (λm hm=>?_) (λc v' q=>?_) I.bare
  .have hc':c=z\/c=TO\/c=i1\/c=i2:=by simpa using hb
   rcases hc' with rfl | rfl | rfl | rfl
   .exact⟨fz.2.2.2.1,fz.2.1,fz.2.2.2.2.1,fz.2.2.2.2.2⟩
   .exact⟨fTO.2.2.2.1,fTO.2.1,fTO.2.2.2.2.1,fTO.2.2.2.2.2⟩
   .exact⟨fi1.2.2.2.1,fi1.2.1,fi1.2.2.2.2.1,fi1.2.2.2.2.2⟩
   .exact⟨fi2.2.2.2.1,fi2.2.1,fi2.2.2.2.2.1,fi2.2.2.2.2.2⟩
  .obtain⟨o,es,ep,ho',r⟩:=hm;exact⟨o,es,ep,hk _ o (YR fz.2.1) (YR fTO.2.1) (YR fi1.2.1) (YR fi2.2.1) ho',r⟩
  .refine(I.hok c v' q).stay (λe w' hc' q'=>?_) (λe q=>q) λe ys q=>q;rcases hc' with rfl | hc'
   .have:=nof e _ q
    exact hk e w' this.1 this.2.1 this.2.2.1 this.2.2.2 q'
   .have:=nof e _ hc'
    exact hk e w' this.1 this.2.1 this.2.2.1 this.2.2.2 q'
 self:=λ_ _ _ _ _ st h=>Y1U st.1 h
def iZip(K:Ad)(ta:TA):TI:=λσ H R=>ta σ H λvs H1=>∃ a b,vs=[.ref a,.ref b]/\(∃ xs ys,SqL K H1 a xs/\SqL K H1 b ys)/\R (Itz K a b) H1
section
variable{X:Cx}
theorem Zz89 (K:Ad) {elts:List Expr} {x1:Nat} {tpos:Pos} {e f:Expr} {ta:TA} {p pos:Pos} (hg:Gl X "zip") (hm:X.mg "zip"=none) (ha:PA X [e,f] ta) (hs:starEach [e,f] X.env=(false,eval e X.env) :: starEach [f] X.env:=by rfl) (hpl:(backTo pos (starEach [f] X.env)).any (·.1)=false:=by rfl) (hk:X.K=K:=by rfl) :
  PI X (.Tuple elts x1 tpos) (.Call (.Name "zip" p) [e,f] [] pos) (iZip K ta):=by
 subst hk;intro pins s σ H R I h;refine Call_ (Zz62 I hg hm Boot.«zip» (Y0c (thn (ha pos pins s σ H _ I h) λus s1 hz0=>?_) hs hpl));obtain⟨vs,H1,I1,r1,q1⟩:=hz0;obtain⟨a,b,ev,⟨xs,ys,hq,hq2⟩,q⟩:=q1;subst ev;obtain⟨u,u',rfl,ru,ru'⟩:=Zz012 r1;obtain rfl:u=Value.ref a:=ru;obtain rfl:u'=Value.ref b:=ru';obtain⟨its,rv,pl,_⟩:=I1.list hq;obtain⟨its2,rv2,pl2,_⟩:=I1.list hq2;have lt1:a<s1.heap.objs.size:=let ⟨_,_,e,_⟩:=pl;Yh e
 have lt2:b<s1.heap.objs.size:=let ⟨_,_,e,_⟩:=pl2;Yh e
 have D:ZipApart (s1.heap.objs.size+4) (s1.heap.objs.size+2) (s1.heap.objs.size+3) s1.heap.objs.size (s1.heap.objs.size+1) a b:=by
  have key:∀ n x y:Nat,x<n->y<n->ZipApart (n+4) (n+2) (n+3) n (n+1) x y:=λn x y h1 h2=>by constructor <;> (intro q;have q':(_:Nat)=_:=q;lia)
  exact key _ _ _ lt1 lt2
 refine call_zip_2 pl.isList pl2.isList λh' hz hTI hTO hi1 hi2 hsz hk=>?_;refine Y1U (s:={ s1 with heap:=h' }) hz ?_;refine⟨s1.heap.objs.size+4,[s1.heap.objs.size+4,s1.heap.objs.size+2,s1.heap.objs.size+3,s1.heap.objs.size,s1.heap.objs.size+1],_,_,H1,rfl,I1.kept (t':=s1.toks) hk,Zh5 a b _ _ _ _ _ D,⟨hz,hTI,⟨_,_,hTO⟩,hi1,hi2⟩,λc hc=>?_,q⟩;have hle:s1.heap.objs.size<=c:=by
  have hc':c=s1.heap.objs.size+4\/c=s1.heap.objs.size+2\/c=s1.heap.objs.size+3\/c=s1.heap.objs.size\/c=s1.heap.objs.size+1:=by simpa using hc
  rcases hc' with e | e | e | e | e <;> rw[e] <;> first | exact Yy6 _ | exact Y2c _ _
 exact I1.fpOk hle (I1.hok.fresh hle)
end
end L2
namespace My
open PySem L2
section
variable{K:Ad}{a b:Addr}{xs ys:List V}{g:TG}{tt:TT}{te:TE}{o:Nat}{fr:List Nat}{σ:St}{H:Hp}{Q:VK}
theorem Zf11(Pv:Nat->List V->Hp->Prop)(h0:Pv 0 [] H)(hxy:xs.length=ys.length)(hz:xs.length<sizeLine)(hl:∀ i zs H,i<=xs.length->Pv i zs H->SqL K H a xs/\SqL K H b ys/\zs.length<=i)
  (hs:∀(i:Nat) x y zs H (p:Addr),H p=none->xs[i]?=some x->ys[i]?=some y->Pv i zs H->ZS3 Pv g tt te o fr σ i (.ref p) zs (upd H p (.tup [x,y]))) (hd:∀ zs H,Pv xs.length zs H->∀ p,H p=none->Q (.ref p) (upd H p (.lst zs))):LcR (Itz K a b) g tt te o fr σ H Q:=by
 refine⟨λi m zs H=>m=xs.length - i/\i<=xs.length/\Pv i zs H,⟨xs.length,by simp,Yl _,h0⟩,?_⟩;rintro i m zs H ⟨rfl,hi,p⟩;obtain⟨q,q2,hy⟩:=hl i zs H hi p;by_cases hlt:i<xs.length
 .refine .inr ⟨⟨xs,ys,xs[i],ys[i]'(by lia),q,q2,by simp[hlt],Yy2 (by omega)⟩,by lia,λx H' ⟨T,u,v,hT,ex,eH,hu,hv⟩=>?_⟩;subst ex eH;exact hs i u v zs H T hT (hu xs q) (hv ys q2) p (λj zs H=>∃ m',m'<xs.length - i/\m'=xs.length - j/\j<=xs.length/\Pv j zs H) λzs H p'=>⟨xs.length - (i+1),by grind,rfl,hlt,p'⟩
 .have e:i=xs.length:=by lia
  subst e;exact .inl ⟨⟨xs,ys,q,q2,.inl (Yy6 _)⟩,by lia,hd zs H p⟩
end
end My
namespace My
abbrev Mx:=Nat->Nat->Int
def sm:Nat->(Nat->Int)->Int
 | 0,_=>0
 | n+1,f=>sm n f+f n
theorem Zx{f g:Nat->Int}:∀ {n:Nat},(∀ i,i<n->f i=g i)->sm n f=sm n g
 | 0,_=>rfl
 | n+1,h=>by show sm n f+f n=sm n g+g n;rw[Zx λi hi=>h i (by lia),h n (by lia)]
theorem Zn3{f g:Nat->Int}:∀ {n:Nat},sm n (λi=>f i+g i)=sm n f+sm n g
 | 0=>rfl
 | n+1=>by show sm n (λi=>f i+g i)+(f n+g n)=sm n f+f n+(sm n g+g n);rw[Zn3];lia
theorem ZO4{c:Int}{f:Nat->Int}:∀ {n:Nat},sm n (λi=>c * f i)=c * sm n f
 | 0=>(Y0w c).symm
 | n+1=>by show sm n (λi=>c * f i)+c * f n=c * (sm n f+f n);rw[ZO4,Y1W]
theorem sm_zero:∀ {n:Nat},sm n (λ_=>0)=0
 | 0=>rfl
 | n+1=>by show sm n (λ_=>0)+0=0;rw[sm_zero];rfl
theorem ZT1{f:Nat->Int}(h:∀ i,i<n->f i=0):sm n f=0:=by rw[Zx h];exact sm_zero
theorem ZU1{f:Nat->Int}:∀ {n:Nat},sm (n+1) f=f 0+sm n (λi=>f (i+1))
 | 0=>by show 0+f 0=f 0+0;lia
 | n+1=>by show sm (n+1) f+f (n+1)=f 0+(sm n (λi=>f (i+1))+f (n+1));rw[ZU1];lia
theorem Zt5{f:Nat->Nat->Int}:∀ {n:Nat},sm n (λi=>sm m (f i))=sm m (λj=>sm n (λi=>f i j))
 | 0=>sm_zero.symm
 | n+1=>by show sm n (λi=>sm m (f i))+sm m (f n)=sm m (λj=>sm n (λi=>f i j)+f n j);rw[Zt5,Zn3]
def sk(j k:Nat):Nat:=if k<j then k else k+1
def mn(A:Mx)(j:Nat):Mx:=λi k=>A (i+1) (sk j k)
def sg(j:Nat):Int:=if j % 2=0 then 1 else -1
theorem Zz04(j:Nat):sg (j+1)=- sg j:=by
 unfold sg;by_cases h:j % 2=0
 .rw[if_pos h,if_neg (by omega)]
 .rw[if_neg h,if_pos (by lia)];rfl
def det:Nat->Mx->Int
 | 0,_=>1
 | n+1,A=>sm (n+1) λj=>sg j * A 0 j * det n (mn A j)
theorem Zu5{j k n:Nat}(h:k<n):sk j k<n+1:=by unfold sk;split <;> lia
theorem Zg:∀ {n:Nat} {A B:Mx},(∀ i j,i<n->j<n->A i j=B i j)->det n A=det n B
 | 0,_,_,_=>rfl
 | n+1,A,B,h=>Zx λj hj=>by rw[h 0 j (by lia) hj,Zg (A:=mn A j) (B:=mn B j) λi k hi hk=>h (i+1) (sk j k) (by lia) (Zu5 hk)]
theorem Zc2:∀ {n:Nat} {A B C:Mx} {c:Int} {i:Nat},i<n->(∀ r j,r<n->j<n->r≠i->A r j=B r j/\A r j=C r j)->(∀ j,j<n->A i j=c * B i j+C i j)->det n A=c * det n B+det n C
 | 0,_,_,_,_,_,hi,_,_=>absurd hi (Yy02 _)
 | n+1,A,B,C,c,i,hi,h1,h2=>by
  show sm (n+1) (λj=>sg j * A 0 j * det n (mn A j))=c * sm (n+1) (λj=>sg j * B 0 j * det n (mn B j))+sm (n+1) (λj=>sg j * C 0 j * det n (mn C j));rw[<- ZO4,<- Zn3];refine Zx λj hj=>?_;cases i with
  | zero =>
   have e1:det n (mn B j)=det n (mn A j):=Zg λr k hr hk=>(h1 (r+1) (sk j k) (by omega) (Zu5 hk) (by lia)).1.symm;have e2:det n (mn C j)=det n (mn A j):=Zg λr k hr hk=>(h1 (r+1) (sk j k) (by lia) (Zu5 hk) (by lia)).2.symm
   rw[e1,e2,h2 j hj];generalize det n (mn A j)=d;generalize sg j=s;rw[Y1W,Y3e,<- Y0k s c,Y0V s c,Y0k c s,Y0k c]
  | succ i =>
   have e:=Zc2 (n:=n) (A:=mn A j) (B:=mn B j) (C:=mn C j) (c:=c) (i:=i) (by lia) (λr k hr hk hne=>h1 (r+1) (sk j k) (by lia) (Zu5 hk) (by lia)) (λk hk=>h2 (sk j k) (Zu5 hk));have e0:=h1 0 j (by lia) hj (by lia)
   rw[e,<- e0.1,<- e0.2];generalize det n (mn B j)=d;generalize det n (mn C j)=d';generalize sg j * A 0 j=s;rw[Y1W,<- Y0k,<- Y0k,Y0V s c]
theorem ZB13(h:j<=k):mn (mn A j) k i l=mn (mn A (k+1)) j i l:=by
 show A (i+1+1) (sk j (sk k l))=A (i+1+1) (sk (k+1) (sk j l));refine YZ _ ?_;unfold sk;by_cases h1:l<j
 .rw[if_pos (show l<k by lia),if_pos h1,if_pos (show l<k+1 by lia)]
 .rw[if_neg h1];by_cases h2:l<k
  .rw[if_pos h2,if_neg h1,if_pos (show l+1<k+1 by lia)]
  .rw[if_neg h2,if_neg (show ¬ l+1<j by lia),if_neg (show ¬ l+1<k+1 by lia)]
theorem ZJ3:∀ {n:Nat} {A:Mx} {i:Nat},i+1<n->(∀ j,j<n->A i j=A (i+1) j)->det n A=0
 | 0,_,_,hi,_=>absurd hi (Yy02 _)
 | n+1,A,i+1,hi,h=>ZT1 λj hj=>by rw[ZJ3 (A:=mn A j) (i:=i) (by lia) λk hk=>h (sk j k) (Zu5 hk),Y0w]
 | 1,_,0,hi,_=>absurd hi (by omega)
 | n+2,A,0,_,h=>by
  obtain⟨t,ht⟩:∃ t:Nat->Nat->Int,t=λj k=>sg j * A 0 j * (sg k * A 1 (sk j k) * det n (mn (mn A j) k)):=⟨_,rfl⟩;have e1:det (n+2) A=sm (n+2) λj=>sm (n+1) (t j):=Zx λj hj=>by rw[ht,ZO4];rfl
  have e2:∀ j k,j<=k->k<n+1->t (k+1) j=- t j k:=λj k hjk hk=>by
   rw[ht];show sg (k+1) * A 0 (k+1) * (sg j * A 1 (sk (k+1) j) * det n (mn (mn A (k+1)) j))=- (sg j * A 0 j * (sg k * A 1 (sk j k) * det n (mn (mn A j) k)))
   have f1:sk (k+1) j=j:=by unfold sk;rw[if_pos (by lia)]
   have f2:sk j k=k+1:=by unfold sk;rw[if_neg (by lia)]
   have f3:det n (mn (mn A (k+1)) j)=det n (mn (mn A j) k):=Zg λi l _ _=>(ZB13 hjk).symm;rw[f1,f2,f3,Zz04,<- h j (by lia),<- h (k+1) (by lia)];generalize det n (mn (mn A j) k)=d;generalize A 0 j=x;generalize A 0 (k+1)=y;generalize sg j=s;generalize sg k=u;simp only [Y3c,Int.neg_inj];simp only [Y0V,Yy25,Y0k]
  have e3:sm (n+2) (λj=>sm (n+1) (t j))=sm (n+2) (λj=>sm (n+1) λk=>if k<j then t j k else 0)+sm (n+2) (λj=>sm (n+1) λk=>if k<j then 0 else t j k):=by rw[<- Zn3];refine Zx λj _=>?_;rw[<- Zn3];refine Zx λk _=>?_;split <;> lia
  have e4:sm (n+2) (λj=>sm (n+1) λk=>if k<j then t j k else 0)=sm (n+1) (λk=>sm (n+1) λj=>if k<=j then t (j+1) k else 0):=by
   rw[Zt5];refine Zx λk _=>?_;rw[ZU1,if_neg (by lia),Y1N];refine Zx λj _=>?_;by_cases c:k<=j
   .rw[if_pos c,if_pos (by omega)]
   .rw[if_neg c,if_neg (by lia)]
  have e5:sm (n+2) (λj=>sm (n+1) λk=>if k<j then 0 else t j k)=sm (n+1) (λj=>sm (n+1) λk=>if j<=k then t j k else 0):=by
   show sm (n+1) (λj=>sm (n+1) λk=>if k<j then 0 else t j k)+sm (n+1) (λk=>if k<n+1 then 0 else t (n+1) k)=_;rw[ZT1 (f:=λk=>if k<n+1 then 0 else t (n+1) k) λk hk=>if_pos hk,Y0C];refine Zx λj _=>Zx λk _=>?_;by_cases c:j<=k
   .rw[if_pos c,if_neg (by lia)]
   .rw[if_neg c,if_pos (by lia)]
  rw[e1,e3,e4,e5,<- Zn3];refine ZT1 λj hj=>?_;rw[<- Zn3];refine ZT1 λk hk=>?_;by_cases c:j<=k
  .rw[if_pos c,if_pos c,e2 j k c hk];lia
  .rw[if_neg c,if_neg c];rfl
def put2(A:Mx)(i:Nat)(x y:Nat->Int):Mx:=λr=>if r=i then x else if r=i+1 then y else A r
theorem ZR9{x x' y:Nat->Int}(hi:i+1<n):det n (put2 A i (λj=>x j+x' j) y)=det n (put2 A i x y)+det n (put2 A i x' y):=by
 have:=Zc2 (n:=n) (A:=put2 A i (λj=>x j+x' j) y) (B:=put2 A i x y) (C:=put2 A i x' y) (c:=1) (i:=i) (by lia) (λr j _ _ hne=>by unfold put2;rw[if_neg hne,if_neg hne,if_neg hne];exact⟨rfl,rfl⟩) (λj _=>by unfold put2;rw[if_pos rfl,if_pos rfl,if_pos rfl,Y0A])
 rw[this,Y0A]
theorem Zw4{x y y':Nat->Int}(hi:i+1<n):det n (put2 A i x (λj=>y j+y' j))=det n (put2 A i x y)+det n (put2 A i x y'):=by
 have ne:¬ i+1=i:=by lia
 have:=Zc2 (n:=n) (A:=put2 A i x (λj=>y j+y' j)) (B:=put2 A i x y) (C:=put2 A i x y') (c:=1) (i:=i+1) (by lia) (λr j _ _ hne=>by unfold put2;rw[if_neg hne,if_neg hne,if_neg hne];exact⟨rfl,rfl⟩) (λj _=>by unfold put2;rw[if_neg ne,if_neg ne,if_neg ne,if_pos rfl,if_pos rfl,if_pos rfl,Y0A])
 rw[this,Y0A]
theorem ZI3{x:Nat->Int}(hi:i+1<n):det n (put2 A i x x)=0:=ZJ3 hi λj _=>by unfold put2;rw[if_pos rfl,if_neg (by lia),if_pos rfl]
theorem ZQ9{x y:Nat->Int}(hi:i+1<n):det n (put2 A i y x)=- det n (put2 A i x y):=by have h:=ZI3 (A:=A) (x:=λj=>x j+y j) hi;rw[ZR9 hi,Zw4 hi,Zw4 hi,ZI3 hi,ZI3 hi]at h;lia
theorem Zz19:put2 A i (A i) (A (i+1))=A:=by
 funext r
 unfold put2;by_cases h:r=i
 .rw[if_pos h,h]
 .rw[if_neg h];by_cases h2:r=i+1
  .rw[if_pos h2,h2]
  .rw[if_neg h2]
theorem Zw6(hi:i+1<n):det n (put2 A i (A (i+1)) (A i))=- det n A:=by
 have:=ZQ9 (A:=A) (x:=A i) (y:=A (i+1)) hi
 rwa[Zz19]at this
theorem ZQ1:∀ {d:Nat} {A:Mx},a+d+1<n->(∀ j,j<n->A a j=A (a+d+1) j)->det n A=0
 | 0,A,hn,h=>ZJ3 hn h
 | d+1,A,hn,h=>by
  have e:=Zw6 (n:=n) (A:=A) (i:=a+d+1) (by lia);have z:det n (put2 A (a+d+1) (A (a+d+1+1)) (A (a+d+1)))=0:=by refine ZQ1 (a:=a) (d:=d) (by lia) λj hj=>?_;unfold put2;rw[if_neg (by lia),if_neg (by lia),if_pos rfl];exact h j hj
  lia
def rotN(k t i:Nat):Nat:=if i<k then i else if i=k then k+t else if i<=k+t then i - 1 else i
theorem Zz77(k i:Nat):rotN k 0 i=i:=by
 unfold rotN;by_cases h:i<k
 .rw[if_pos h]
 .rw[if_neg h];by_cases h2:i=k
  .rw[if_pos h2,h2];rfl
  .rw[if_neg h2,if_neg (by lia)]
theorem Zy6:∀ {t:Nat} {A:Mx},k+t<n->det n (λi=>A (rotN k t i))=sg t * det n A
 | 0,A,_=>by rw[show sg 0=1 from rfl,Y0A];exact Zg λi j _ _=>by rw[Zz77]
 | t+1,A,h=>by
  have e:=Zy6 (n:=n) (k:=k) (t:=t) (A:=put2 A (k+t) (A (k+t+1)) (A (k+t))) (by lia);rw[Zw6 (by lia)]at e;have f:det n (λi=>A (rotN k (t+1) i))=det n (λi=>put2 A (k+t) (A (k+t+1)) (A (k+t)) (rotN k t i)):=Zg λi j _ _=>by
   refine congrFun ?_ j;have r1:rotN k (t+1) i=if i<k then i else if i=k then k+(t+1) else if i<=k+(t+1) then i - 1 else i:=rfl
   have r2:rotN k t i=if i<k then i else if i=k then k+t else if i<=k+t then i - 1 else i:=rfl
   unfold put2;by_cases h1:i<k
   .rw[if_pos h1]at r1 r2;rw[r1,r2,if_neg (by lia),if_neg (by lia)]
   .rw[if_neg h1]at r1 r2;by_cases h2:i=k
    .rw[if_pos h2]at r1 r2;rw[r1,r2,if_pos rfl];rfl
    .rw[if_neg h2]at r1 r2;by_cases h3:i<=k+t
     .rw[if_pos (by lia)]at r1;rw[if_pos h3]at r2;rw[r1,r2,if_neg (by lia),if_neg (by lia)]
     .rw[if_neg h3]at r2;by_cases h4:i=k+t+1
      .rw[if_pos (by lia)]at r1;rw[r1,r2,if_neg (by grind),if_pos h4];exact YZ A (by lia)
      .rw[if_neg (by lia)]at r1;rw[r1,r2,if_neg (by lia),if_neg h4]
  rw[f,e,Zz04,Int.mul_neg,Y3c]
theorem ZK3:∀ {n:Nat} {A:Mx},(∀ i,i<n+1->A i 0=0)->det (n+1) A=0
 | 0,A,h=>by show 0+sg 0 * A 0 0 * 1=0;rw[h 0 (by omega),Y0w];rfl
 | n+1,A,h=>ZT1 λj hj=>by
  cases j with
  | zero=>rw[h 0 (by lia),Y0w,Y2n]
  | succ j =>
   rw[ZK3 (A:=mn A (j+1)) λi hi=>?_,Y0w];show A (i+1) (sk (j+1) 0)=0
   rw[show sk (j+1) 0=0 from rfl];exact h (i+1) (by lia)
theorem ZF7(h:∀ i,i<n->A (i+1) 0=0):det (n+1) A=A 0 0 * det n (λi j=>A (i+1) (j+1)):=by
 show sm (n+1) (λj=>sg j * A 0 j * det n (mn A j))=_;rw[ZU1,ZT1 λj hj=>?_]
 .rw[Y0C,show sg 0=1 from rfl,Y0A];refine YZ (A 0 0 * ·) (Zg λi j _ _=>?_);rfl
 .cases n with
  | zero=>exact absurd hj (Yy02 _)
  | succ n =>
   rw[ZK3 (A:=mn A (j+1)) λi hi=>?_,Y0w];exact h i hi
theorem Zx6{i:Nat}(hi:i<n)(h:∀ j,j<n->A i j=0):det n A=0:=by
 have:=Zc2 (A:=A) (B:=A) (C:=A) (c:=1) hi (λr j _ _ _=>⟨rfl,rfl⟩) (λj hj=>by rw[h j hj];rfl)
 grind
theorem Zv4{c:Int}:∀ {n:Nat} {A:Mx},det n (λi j=>c * A i j)=c ^ n * det n A
 | 0,_=>by show(1:Int)=c ^ 0 * 1;rw[Y1O];rfl
 | n+1,A=>by
  show sm (n+1) (λj=>sg j * (c * A 0 j) * det n (mn (λi j=>c * A i j) j))=c ^ (n+1) * sm (n+1) (λj=>sg j * A 0 j * det n (mn A j));rw[<- ZO4];refine Zx λj _=>?_;have e:det n (mn (λi j=>c * A i j) j)=c ^ n * det n (mn A j):=Zv4 (A:=mn A j)
  rw[e,Y2o];generalize det n (mn A j)=d;generalize c ^ n=p;generalize sg j=s;generalize A 0 j=x;simp only [Y0V,Yy25,Y0k]
def offN(R:Mx):Mx:=λi j=>R 0 0 * R (i+1) (j+1) - R (i+1) 0 * R 0 (j+1)
def offB(R:Mx)(k:Nat):Mx:=λr j=>if r=0 then R 0 j else if r<=k then R 0 0 * R r j - R r 0 * R 0 j else R r j
theorem ZB6{m:Nat}:∀ {k:Nat},k<m+1->det (m+1) (offB R k)=R 0 0 ^ k * det (m+1) R
 | 0,_=>by
  rw[Y1O,Y0A];refine Zg λi j _ _=>?_;unfold offB;by_cases h:i=0
  .rw[if_pos h,h]
  .rw[if_neg h,if_neg (by lia)]
 | k+1,hk=>by
  have ih:=ZB6 (m:=m) (R:=R) (k:=k) (by lia);obtain⟨C,hC⟩:∃ C:Mx,C=λr j=>if r=k+1 then - R (k+1) 0 * R 0 j else offB R k r j:=⟨_,rfl⟩
  obtain⟨B,hB⟩:∃ B:Mx,B=λr j=>if r=k+1 then R 0 j else offB R k r j:=⟨_,rfl⟩
  obtain⟨Z,hZ⟩:∃ Z:Mx,Z=λr j=>if r=k+1 then 0 else offB R k r j:=⟨_,rfl⟩
  have hBz:det (m+1) B=0:=ZQ1 (n:=m+1) (a:=0) (d:=k) (by lia) λj hj=>by
   rw[hB];show(if 0=k+1 then _ else offB R k 0 j)=if 0+k+1=k+1 then _ else _
   rw[if_neg (by lia),if_pos (by lia)];rfl
  have hZz:det (m+1) Z=0:=Zx6 (i:=k+1) hk λj hj=>by rw[hZ];exact if_pos rfl
  have hCz:det (m+1) C=0:=by
   have:=Zc2 (A:=C) (B:=B) (C:=Z) (c:=- R (k+1) 0) hk (λr j _ _ hne=>by
    rw[hC,hB,hZ];show(if r=k+1 then _ else offB R k r j)=(if r=k+1 then _ else offB R k r j)/\(if r=k+1 then _ else offB R k r j)=(if r=k+1 then _ else offB R k r j)
    rw[if_neg hne,if_neg hne,if_neg hne];exact⟨rfl,rfl⟩) (λj _=>by
    rw[hC,hB,hZ];show(if k+1=k+1 then _ else _)=_ * (if k+1=k+1 then _ else _)+(if k+1=k+1 then _ else _)
    rw[if_pos rfl,if_pos rfl,if_pos rfl,Y0C])
   rw[this,hBz,hZz,Y0w];rfl
  have:=Zc2 (A:=offB R (k+1)) (B:=offB R k) (C:=C) (c:=R 0 0) hk (λr j _ _ hne=>by
   have e1:offB R (k+1) r j=offB R k r j:=by
    unfold offB;by_cases h0:r=0
    .rw[if_pos h0,if_pos h0]
    .rw[if_neg h0,if_neg h0];by_cases h1:r<=k
     .rw[if_pos h1,if_pos (by lia)]
     .rw[if_neg h1,if_neg (by lia)]
   refine⟨e1,?_⟩;rw[hC,e1];show _=if r=k+1 then _ else _
   rw[if_neg hne]) (λj _=>by
   have e1:offB R (k+1) (k+1) j=R 0 0 * R (k+1) j - R (k+1) 0 * R 0 j:=by unfold offB;rw[if_neg (by lia),if_pos (by lia)]
   have e2:offB R k (k+1) j=R (k+1) j:=by unfold offB;rw[if_neg (by omega),if_neg (by lia)]
   rw[e1,e2,hC];show _=_+(if k+1=k+1 then - R (k+1) 0 * R 0 j else _)
   rw[if_pos rfl,Y3c]
   rfl)
  rw[this,hCz,ih,Y0C,Y2o];rw[<- Y0k,Y0V (R 0 0)]
theorem ZJ11:R 0 0 * det m (offN R)=R 0 0 ^ m * det (m+1) R:=by
 rw[<- ZB6 (k:=m) (by lia),ZF7 λi hi=>?_]
 .have e0:offB R m 0 0=R 0 0:=if_pos rfl;rw[e0];refine YZ (R 0 0 * ·) (Zg λi j hi hj=>?_);unfold offB offN;rw[if_neg (by lia),if_pos (by lia)]
 .unfold offB;rw[if_neg (by lia),if_pos (by lia),Y0V];lia
def ex(k:Nat)(r:Nat->Nat)(i:Nat):Nat:=if i<k then i else k+r (i - k)
def Bar(A:Mx)(k M:Nat)(R:Mx)(last:Int):Prop:=last≠0/\∀(m:Nat) (r c:Nat->Nat),(∀ i,i<m+1->r i<M/\c i<M) ->
 det (m+1) (λi j=>R (r i) (c j))=det (k+m+1) (λi j=>A (ex k r i) (ex k c j)) * last ^ m
theorem ZL7(A:Mx)(n:Nat):Bar A 0 n A 1:=⟨by decide,λm r c _=>by rw[Int.one_pow,Y1r,Y1q];refine Zg λi j _ _=>?_;unfold ex;rw[if_neg (Yy02 _),if_neg (Yy02 _),Y1q,Y1q,Nat.sub_zero,Nat.sub_zero]⟩
theorem Zz49{p:Int}(h:p≠0):∀ n:Nat,p ^ n≠0
 | 0=>by rw[Y1O];decide
 | n+1=>by rw[Y2o];exact Int.mul_ne_zero (Zz49 h n) h
def bef(r:Nat->Nat):Nat->Nat
 | 0=>0
 | i+1=>r i+1
theorem ZA11(k:Nat)(r:Nat->Nat)(i:Nat):ex k (bef r) i=ex (k+1) r i:=by
 unfold ex;by_cases h:i<k
 .rw[if_pos h,if_pos (by lia)]
 .rw[if_neg h];by_cases h2:i=k
  .rw[if_pos (by lia),h2,Y1a];rfl
  .rw[if_neg (by lia)];obtain⟨d,rfl⟩:∃ d,i=k+d+1:=⟨i - k - 1,by grind⟩;rw[show k+d+1 - k=d+1 by lia,show k+d+1 - (k+1)=d by lia];show k+(r d+1)=k+1+r d
   lia
theorem ZD8{k M:Nat}(h:Bar A k (M+1) R last)(hp:R 0 0≠0){m:Nat}{r c:Nat->Nat}(hb:∀ i,i<m+1->r i<M/\c i<M) :
  det (m+1) (λi j=>offN R (r i) (c j))=R 0 0 ^ m * (last ^ (m+1) * det (k+1+m+1) (λi j=>A (ex (k+1) r i) (ex (k+1) c j))):=by
 have e1:=ZJ11 (m:=m+1) (R:=λi j=>R (bef r i) (bef c j));have e2:=h.2 (m+1) (bef r) (bef c) λi hi=>by
  cases i with
  | zero=>exact⟨Nat.succ_pos _,Nat.succ_pos _⟩
  | succ i=>have:=hb i (by lia);exact⟨Nat.succ_lt_succ this.1,Nat.succ_lt_succ this.2⟩
 have e3:det (m+1) (offN λi j=>R (bef r i) (bef c j))=det (m+1) (λi j=>offN R (r i) (c j)):=rfl;have e4:det (k+(m+1)+1) (λi j=>A (ex k (bef r) i) (ex k (bef c) j))=det (k+1+m+1) (λi j=>A (ex (k+1) r i) (ex (k+1) c j)):=by rw[show k+(m+1)+1=k+1+m+1 by lia];exact Zg λi j _ _=>by rw[ZA11,ZA11]
 rw[e3]at e1;rw[e4]at e2;have e5:R (bef r 0) (bef c 0)=R 0 0:=rfl
 rw[e5,e2]at e1;generalize det (m+1) (λi j=>offN R (r i) (c j))=x at *;generalize det (k+1+m+1) (λi j=>A (ex (k+1) r i) (ex (k+1) c j))=y at *;rw[Y2o]at e1;refine Y3d hp ?_;rw[e1,Y0V y,Y0V (R 0 0 ^ m),Y0k]
theorem ZA6(A:Mx):det 1 A=A 0 0:=by show 0+sg 0 * A 0 0 * 1=A 0 0;rw[show sg 0=1 from rfl];lia
theorem ZT11{k M:Nat}(h:Bar A k (M+1) R last)(hp:R 0 0≠0)(hi:i<M)(hj:j<M) :
  offN R i j=last * det (k+2) (λa b=>A (ex (k+1) (λ_=>i) a) (ex (k+1) (λ_=>j) b)):=by
 have:=ZD8 h hp (m:=0) (r:=λ_=>i) (c:=λ_=>j) λ_ _=>⟨hi,hj⟩
 rwa[ZA6,Y1O,Y0A,Y2o,Y1O,Y0A]at this
theorem Zz310(h:Bar A k (M+1) R last)(hp:R 0 0≠0)(hR:∀ i j,i<M->j<M->R' i j=(offN R i j).fdiv last):Bar A (k+1) M R' (R 0 0):=by
 refine⟨hp,λm r c hb=>?_⟩;have ex1:∀ i j,i<M->j<M->offN R i j=last * R' i j:=λi j hi hj=>by rw[hR i j hi hj,ZT11 h hp hi hj,Int.mul_fdiv_cancel_left _ h.1]
 have e1:=ZD8 h hp hb;have e2:det (m+1) (λi j=>offN R (r i) (c j))=last ^ (m+1) * det (m+1) (λi j=>R' (r i) (c j)):=by rw[<- Zv4];exact Zg λi j hi hj=>ex1 _ _ (hb i hi).1 (hb j hj).2
 rw[e2]at e1;refine Y3d (Zz49 h.1 (m+1)) ?_;rw[e1];generalize det (k+1+m+1) (λi j=>A (ex (k+1) r i) (ex (k+1) c j))=y;rw[Yy25,Y0V y]
theorem ZS11(h:Bar A k M R last)(ht:t<M):Bar (λi=>A (rotN k t i)) k M (λi=>R (rotN 0 t i)) last:=by
 refine⟨h.1,λm r c hb=>?_⟩;have e:=h.2 m (λi=>rotN 0 t (r i)) c λi hi=>⟨by
  have:=(hb i hi).1
  unfold rotN;rw[if_neg (by lia)];split
  .lia
  .split <;> lia,(hb i hi).2⟩
 rw[e];refine YZ (· * last ^ m) (Zg λi j _ _=>?_);refine YZ (λa=>A a (ex k c j)) ?_;unfold ex;by_cases hi:i<k
 .rw[if_pos hi,if_pos hi];unfold rotN;rw[if_pos hi]
 .rw[if_neg hi,if_neg hi];show k+rotN 0 t (r (i - k))=rotN k t (k+r (i - k))
  generalize r (i - k)=a;have r1:rotN 0 t a=if a<0 then a else if a=0 then 0+t else if a<=0+t then a - 1 else a:=rfl
  have r2:rotN k t (k+a)=if k+a<k then k+a else if k+a=k then k+t else if k+a<=k+t then k+a - 1 else k+a:=rfl
  rw[if_neg (by lia)]at r1 r2;by_cases h1:a=0
  .rw[if_pos h1]at r1;rw[if_pos (by lia)]at r2;rw[r1,r2];lia
  .rw[if_neg h1]at r1;rw[if_neg (by lia)]at r2;by_cases h2:a<=t
   .rw[if_pos (by lia)]at r1;rw[if_pos (by lia)]at r2;rw[r1,r2];lia
   .rw[if_neg (by lia)]at r1;rw[if_neg (by lia)]at r2;rw[r1,r2]
theorem Zz412(k i:Nat):ex k (λi=>i) i=i:=by
 unfold ex;by_cases h:i<k
 .rw[if_pos h]
 .rw[if_neg h];show k+(i - k)=i
  grind
theorem Zz410{k M:Nat}(h:Bar A k (M+1) R last)(h0:∀ i,i<M+1->R i 0=0):det (k+M+1) A=0:=by
 have e:=h.2 M (λi=>i) (λi=>i) λi hi=>⟨hi,hi⟩;rw[ZK3 (A:=λi j=>R i j) h0]at e;have e2:det (k+M+1) (λi j=>A (ex k (λi=>i) i) (ex k (λi=>i) j))=det (k+M+1) A:=Zg λi j _ _=>by rw[Zz412,Zz412]
 rw[e2]at e;rcases Int.mul_eq_zero.mp e.symm with z | z
 .exact z
 .exact absurd z (Zz49 h.1 M)
theorem ZU11(h:Bar A k 1 R last):R 0 0=det (k+1) A:=by
 have e:=h.2 0 (λi=>i) (λi=>i) λi hi=>⟨by lia,by omega⟩;rw[ZA6,Y1O,Y1r]at e;have e2:det (k+0+1) (λi j=>A (ex k (λi=>i) i) (ex k (λi=>i) j))=det (k+1) A:=Zg λi j _ _=>by rw[Zz412,Zz412]
 rwa[e2]at e
end My
namespace L2
open PySem PySem.Spec PyProof.Rows
def ZP13(i j:Int):Prop:=i.natAbs<2 ^ 9000/\j.natAbs<2 ^ 9000
def ZQ13(i j:Int):Prop:=j≠0/\j.natAbs<2 ^ 9000
theorem ZG4(h:a.natAbs<2 ^ 9000):Builtin.Int.intBits a<=9000:=PySem.intBits_le_iff.mpr h
section
variable{X:Cx}
theorem ZL5:OpR X (binaryOp .Mult) (rI ZP13 λi j=>.int (i * j)):=opI λ_ _ _ _ _ _ _ hc q=>mul_int q (.of_bits (YD (ZG4 hc.1) (by decide)) (YD (ZG4 hc.2) (by decide)))
theorem Zf9:OpR X (binaryOp .FloorDiv) (rI ZQ13 λi j=>.int (i.fdiv j)):=opI λ_ _ _ _ _ _ _ hc q=>floordiv_int hc.1 q (.inl (PyProof.noPylong_of_log2 ((Nat.log2_lt (by have:=hc.1;lia)).mpr hc.2)))
end
end L2
namespace My
def fnL(L:Ab):Mx:=λi j=>(L.getD i []).getD j 0
theorem Zj2{l:Ac}{x:Int}(h:L[i]?=some l)(h2:l[j]?=some x):fnL L i j=x:=by
 have e:L.getD i []=l:=by rw[Yy7,h];rfl
 unfold fnL;rw[e,Yy7,h2];rfl
def bnd(B:Nat):Nat->Nat
 | 0=>1
 | n+1=>(n+1) * (B * bnd B n)
theorem Zs10{f:Nat->Int}{C:Nat}:∀ {n:Nat},(∀ i,i<n->(f i).natAbs<=C)->(sm n f).natAbs<=n * C
 | 0,_=>by show(0:Int).natAbs<=0 * C;rw[Nat.zero_mul];exact Yy6 0
 | n+1,h=>by
  have h1:=Zs10 (n:=n) λi hi=>h i (by lia);have h2:=h n (by lia)
  have h3:(sm n f+f n).natAbs<=(sm n f).natAbs+(f n).natAbs:=Int.natAbs_add_le ..;show(sm n f+f n).natAbs<=(n+1) * C
  rw[Nat.succ_mul];lia
theorem Zw8:∀ {n:Nat} {A:Mx},(∀ i j,i<n->j<n->(A i j).natAbs<=B)->(det n A).natAbs<=bnd B n
 | 0,_,_=>Yy6 1
 | n+1,A,h=>by
  refine Zs10 λj hj=>?_;have e:(sg j).natAbs=1:=by unfold sg;split <;> rfl
  rw[Y3j,Y3j,e,Nat.one_mul];exact Y1E (h 0 j (by lia) hj) (Zw8 λi k hi hk=>h (i+1) (sk j k) (by lia) (Zu5 hk))
theorem ZQ11{b:Nat}:∀ {n:Nat},n<=16->bnd (2 ^ b) n<=2 ^ ((b+4) * n)
 | 0,_=>by show 1<=2 ^ ((b+4) * 0);rw[Nat.mul_zero];exact Yy6 1
 | n+1,h=>by
  have ih:=ZQ11 (b:=b) (n:=n) (by lia);have e:2 ^ ((b+4) * (n+1))=16 * (2 ^ b * 2 ^ ((b+4) * n)):=by rw[Nat.mul_succ,Nat.pow_add,Nat.pow_add,Y2S (2 ^ ((b+4) * n)),Y2S (2 ^ b) (2 ^ 4),Nat.mul_assoc]
  rw[e];show(n+1) * (2 ^ b * bnd (2 ^ b) n)<=_
  exact Y1E h (Y1E (Yy6 _) ih)
theorem ZE7(hn:n<=16)(h:∀ i j,i<n->j<n->(A i j).natAbs<=2 ^ 400):(det n A).natAbs<2 ^ 9000:=by
 have h1:=Zw8 h;have h2:=ZQ11 (b:=400) hn
 have h3:2 ^ ((400+4) * n)<=2 ^ (404 * 16):=Nat.pow_le_pow_right (by decide) (Y1E (Yy6 _) hn);have h4:2 ^ (404 * 16)<2 ^ 9000:=Nat.pow_lt_pow_right (by decide) (by decide)
 exact Y2v (YD h1 (YD h2 h3)) h4
theorem Zz413(h:Bar A k M R last){i j:Nat}(hi:i<M)(hj:j<M):R i j=det (k+1) (λa b=>A (ex k (λ_=>i) a) (ex k (λ_=>j) b)):=by
 have:=h.2 0 (λ_=>i) (λ_=>j) λ_ _=>⟨hi,hj⟩
 rwa[ZA6,Y1O,Y1r]at this
theorem ZM7{k M n:Nat}(h:Bar A k M R last)(hn:k+M=n)(hn16:n<=16)(hA:∀ i j,i<n->j<n->(A i j).natAbs<=2 ^ 400){i j:Nat}(hi:i<M)(hj:j<M):(R i j).natAbs<2 ^ 9000:=by
 rw[Zz413 h hi hj];refine ZE7 (by lia) λa b ha hb=>hA _ _ ?_ ?_
 .have e:ex k (λ_=>i) a=if a<k then a else k+i:=rfl
  rw[e];split <;> lia
 .have e:ex k (λ_=>j) b=if b<k then b else k+j:=rfl
  rw[e];split <;> lia
theorem ZA10{L:Ab}{l:Ac}(h:L[t]?=some l)(i:Nat):(l :: L.eraseIdx t)[i]?=L[rotN 0 t i]?:=by
 have ht:=(Yy3.mp h).1;have r:rotN 0 t i=if i<0 then i else if i=0 then 0+t else if i<=0+t then i - 1 else i:=rfl
 rw[if_neg (by lia)]at r;cases i with
 | zero =>
  rw[if_pos rfl,Y1q]at r;rw[r,h];rfl
 | succ i =>
  rw[if_neg (by lia),Y1q]at r;rw[r,List.getElem?_cons_succ,Y2e];by_cases c:i+1<=t
  .rw[if_pos c,if_pos (by lia)];rfl
  .rw[if_neg c,if_neg (by lia)]
theorem ZB10{l:Ac}(h:L[t]?=some l):fnL (l :: L.eraseIdx t)=λi=>fnL L (rotN 0 t i):=by
 funext i j
 show((l :: L.eraseIdx t).getD i []).getD j 0=(L.getD (rotN 0 t i) []).getD j 0;refine YZ (λr:Ac=>r.getD j 0) ?_;rw[Yy7,Yy7,ZA10 h]
def tkn(y:Int)(p:Ac)(last:Int)(l:Ac):Ac:=List.zipWith (λown other=>(y * own - l.headD 0 * other).fdiv last) l.tail p
theorem ZP7(h:l.length=p.length+1):(tkn y p last l).length=p.length:=by unfold tkn;rw[Y1f,List.length_tail];grind
theorem Zn10{L:Ab}{M:Nat}(hp:p.length=M)(hL:L.length=M)(hl:∀ l∈L,l.length=M+1){i j:Nat}(hi:i<M)(hj:j<M) :
  fnL (L.map (tkn y p last)) i j=(offN (fnL ((y :: p) :: L)) i j).fdiv last:=by
 obtain⟨l,hli⟩:∃ l,L[i]?=some l:=⟨_,Yy2 (by lia)⟩;have hll:=hl l (Yy8 hli)
 obtain⟨x,l',rfl⟩:∃ x l',l=x :: l':=by
  cases l with
  | nil=>cases hll
  | cons x l'=>exact⟨x,l',rfl⟩
 have hl':l'.length=M:=by rw[Yz]at hll;lia
 obtain⟨u,hu⟩:∃ u,l'[j]?=some u:=⟨_,Yy2 (by lia)⟩;obtain⟨v,hv⟩:∃ v,p[j]?=some v:=⟨_,Yy2 (by lia)⟩;have e1:fnL (L.map (tkn y p last)) i j=(y * u - x * v).fdiv last:=Zj2 (l:=tkn y p last (x :: l')) (by rw[Yp,hli];rfl) (by
  show(List.zipWith _ l' p)[j]?=_;rw[Y0O,hu,hv]
  rfl)
 have e2:fnL ((y :: p) :: L) 0 0=y:=rfl;have e3:fnL ((y :: p) :: L) (i+1) (j+1)=u:=Zj2 (l:=x :: l') hli hu
 have e4:fnL ((y :: p) :: L) (i+1) 0=x:=Zj2 (l:=x :: l') hli rfl;have e5:fnL ((y :: p) :: L) 0 (j+1)=v:=Zj2 (l:=y :: p) rfl hv
 rw[e1];unfold offN;rw[e2,e3,e4,e5]
end My
namespace My
open PySem L2
def RowV(K:Ad)(H:Hp)(v:V)(l:Ac):Prop:=∃(r:Addr) (k:Bool),v=.ref r/\SqK k K H r (IL l)
def LiV(d:Addr)(H:Hp)(v:V)(l:Ac):Prop:=∃ r,v=.ref r/\H r=some (.lst (IL l))/\r≠d
theorem LiV.same(s:Same H H')(h:LiV d H v l):LiV d H' v l:=by obtain⟨r,e,h,n⟩:=h;exact⟨r,e,s _ _ h,n⟩
theorem LiV.mut(h:LiV d H v l):LiV d (upd H d o) v l:=by obtain⟨r,e,h,n⟩:=h;exact⟨r,e,by rw[Zz9 n];exact h,n⟩
theorem LiV.list(h:LiV d H v l):ZZ6 H v l:=by obtain⟨r,e,h,_⟩:=h;exact⟨r,e,h⟩
theorem Bears.erase{α:Type}[DecidableEq α]{R:V->α->Prop}{xs:List V}{l:List α}(h:Bears R xs l)(t:Nat):Bears R (xs.eraseIdx t) (l.eraseIdx t):=by
 have hl:=h.1;refine⟨by rw[Y0U,Y0U,hl],λi a e=>?_⟩;rw[Y2e]at e;rw[Y2e];split at e
 .next c=>rw[if_pos c];exact h.2 _ _ e
 .next c=>rw[if_neg c];exact h.2 _ _ e
theorem ZH6(x:Int)(l:Ac):cutV (IL (x :: l)) (some 1) none=IL l:=by rw[ZA4 (by decide)];rfl
theorem Zr13(t:Nat):sg t * sg t=1:=by unfold sg;split <;> rfl
end My
namespace My
theorem ZP8{f:Nat->Nat->Int}:sm n (λi=>sm m (λj=>f i j))=sm m (λj=>sm n (λi=>f i j)):=Zt5
theorem Zv8:∀ {n:Nat} {A:Mx},det (n+1) A=sm (n+1) λi=>sg i * A i 0 * det n (λr c=>A (sk i r) (c+1))
 | 0,A=>rfl
 | n+1,A=>by
  have e1:det (n+2) A=sg 0 * A 0 0 * det (n+1) (mn A 0)+sm (n+1) λj=>sg (j+1) * A 0 (j+1) * det (n+1) (mn A (j+1)):=ZU1;have e2:sm (n+2) (λi=>sg i * A i 0 * det (n+1) (λr c=>A (sk i r) (c+1)))=sg 0 * A 0 0 * det (n+1) (λr c=>A (sk 0 r) (c+1))+sm (n+1) λi=>sg (i+1) * A (i+1) 0 * det (n+1) (λr c=>A (sk (i+1) r) (c+1)):=ZU1
  rw[e1,e2];have e3:det (n+1) (mn A 0)=det (n+1) (λr c=>A (sk 0 r) (c+1)):=Zg λr c _ _=>rfl
  rw[e3];refine YZ (λz:Int=>sg 0 * A 0 0 * det (n+1) (λr c=>A (sk 0 r) (c+1))+z) ?_;obtain⟨D,hD⟩:∃ D:Nat->Nat->Int,D=λi j=>det n (λr c=>A (sk i r+1) (sk (j+1) (c+1))):=⟨_,rfl⟩;have e4:∀ j,j<n+1->det (n+1) (mn A (j+1))=sm (n+1) λi=>sg i * A (i+1) 0 * D i j:=λj _=>by rw[Zv8,hD];rfl
  have e5:∀ i,i<n+1->det (n+1) (λr c=>A (sk (i+1) r) (c+1))=sm (n+1) λj=>sg j * A 0 (j+1) * D i j:=λi hi=>by
   show sm (n+1) (λj=>sg j * A (sk (i+1) 0) (j+1) * det n (mn (λr c=>A (sk (i+1) r) (c+1)) j))=_;refine Zx λj _=>?_;rw[hD];show sg j * A (sk (i+1) 0) (j+1) * det n (mn (λr c=>A (sk (i+1) r) (c+1)) j)=sg j * A 0 (j+1) * det n (λr c=>A (sk i r+1) (sk (j+1) (c+1)))
   rw[show sk (i+1) 0=0 from rfl];refine YZ (sg j * A 0 (j+1) * ·) (Zg λr c _ _=>?_);show A (sk (i+1) (r+1)) (sk j c+1)=A (sk i r+1) (sk (j+1) (c+1))
   have f1:sk (i+1) (r+1)=sk i r+1:=by
    unfold sk;by_cases h:r<i
    .rw[if_pos h,if_pos (by lia)]
    .rw[if_neg h,if_neg (by lia)]
   have f2:sk j c+1=sk (j+1) (c+1):=by
    unfold sk;by_cases h:c<j
    .rw[if_pos h,if_pos (by lia)]
    .rw[if_neg h,if_neg (by lia)]
   rw[f1,f2]
  have e6:sm (n+1) (λj=>sg (j+1) * A 0 (j+1) * det (n+1) (mn A (j+1)))=sm (n+1) λj=>sm (n+1) λi=>sg (j+1) * A 0 (j+1) * (sg i * A (i+1) 0 * D i j):=Zx λj hj=>by rw[e4 j hj,ZO4]
  have e7:sm (n+1) (λi=>sg (i+1) * A (i+1) 0 * det (n+1) (λr c=>A (sk (i+1) r) (c+1)))=sm (n+1) λi=>sm (n+1) λj=>sg (i+1) * A (i+1) 0 * (sg j * A 0 (j+1) * D i j):=Zx λi hi=>by rw[e5 i hi,ZO4]
  rw[e6,e7,ZP8];refine Zx λi _=>Zx λj _=>?_;rw[Zz04,Zz04];generalize D i j=d;generalize A 0 (j+1)=x;generalize A (i+1) 0=y;generalize sg i=s;generalize sg j=u;simp only [Y3c,Int.neg_inj];simp only [Y0V,Yy25,Y0k]
theorem det_T:∀ {n:Nat} {A:Mx},det n (λi j=>A j i)=det n A
 | 0,_=>rfl
 | n+1,A=>by
  rw[Zv8 (A:=A)];refine Zx λj _=>?_;show sg j * A j 0 * det n (λi k=>A (sk j k) (i+1))=sg j * A j 0 * det n (λr c=>A (sk j r) (c+1))
  rw[<- det_T (A:=λr c=>A (sk j r) (c+1))]
def pr:Nat->(Nat->Int)->Int
 | 0,_=>1
 | n+1,f=>pr n f * f n
theorem ZH11{n a b:Nat}(ha:a<n)(hb:b<n)(hne:a≠b)(h:∀ j,j<n->A a j=A b j):det n A=0:=by
 rcases Nat.lt_or_gt_of_ne hne with c | c
 .obtain⟨d,rfl⟩:∃ d,b=a+d+1:=⟨b - a - 1,by grind⟩;exact ZQ1 hb h
 .obtain⟨d,rfl⟩:∃ d,a=b+d+1:=⟨a - b - 1,by grind⟩;exact ZQ1 ha λj hj=>(h j hj).symm
def putr(A:Mx)(i:Nat)(x:Nat->Int):Mx:=λr=>if r=i then x else A r
theorem Yz6{c:Int}{x y:Nat->Int}(hi:i<n):det n (putr A i (λj=>c * x j+y j))=c * det n (putr A i x)+det n (putr A i y) :=
 Zc2 hi (λr j _ _ hne=>by unfold putr;rw[if_neg hne,if_neg hne,if_neg hne];exact⟨rfl,rfl⟩) (λj _=>by unfold putr;rw[if_pos rfl,if_pos rfl,if_pos rfl])
theorem ZD5:putr A i (A i)=A:=by
 funext r
 unfold putr;by_cases h:r=i
 .rw[if_pos h,h]
 .rw[if_neg h]
theorem ZD6{n a b:Nat}{c:Int}(ha:a<n)(hb:b<n)(hne:a≠b):det n (putr A a (λj=>A a j+c * A b j))=det n A:=by
 have e:(λj=>A a j+c * A b j)=λj=>c * A b j+A a j:=by funext j;lia
 rw[e,Yz6 ha,ZD5,ZH11 ha hb hne (A:=putr A a (A b)) λj _=>?_,Y0w,Y1N];unfold putr;rw[if_pos rfl,if_neg (YR hne)]
theorem Zq12(a i:Nat):rotN 0 a (i+1)=sk a i:=by
 have r:rotN 0 a (i+1)=if i+1<0 then i+1 else if i+1=0 then 0+a else if i+1<=0+a then i+1 - 1 else i+1:=rfl
 rw[if_neg (by lia),if_neg (by lia)]at r;rw[r];unfold sk;by_cases h:i<a
 .rw[if_pos h,if_pos (by lia)];lia
 .rw[if_neg h,if_neg (by lia)]
theorem ZU7{f:Nat->Int}{a:Nat}:∀ {n:Nat},a<n->(∀ j,j<n->j≠a->f j=0)->sm n f=f a
 | 0,h,_=>absurd h (Yy02 _)
 | n+1,h,h0=>by
  show sm n f+f n=f a;by_cases c:a=n
  .rw[ZT1 λi hi=>h0 i (by grind) (by lia),c,Y1N]
  .rw[ZU7 (n:=n) (by lia) λj hj hne=>h0 j (by lia) hne,h0 n (by lia) (by lia),Y0C]
theorem ZP9(ha:a<n+1):det (n+1) (putr A a (λj=>if j=a then 1 else 0))=det n (λi j=>A (sk a i) (sk a j)):=by
 have e:=Zy6 (n:=n+1) (k:=0) (t:=a) (A:=putr A a (λj=>if j=a then 1 else 0)) (by lia);have r0:rotN 0 a 0=a:=by show(if 0<0 then 0 else if 0=0 then 0+a else _)=a;rw[if_neg (by lia),if_pos rfl,Y1q]
 have top:det (n+1) (λi=>putr A a (λj=>if j=a then 1 else 0) (rotN 0 a i))=sg a * det n (λi j=>A (sk a i) (sk a j)):=by
  show sm (n+1) (λj=>sg j * putr A a (λj=>if j=a then 1 else 0) (rotN 0 a 0) j * det n (mn (λi=>putr A a (λj=>if j=a then 1 else 0) (rotN 0 a i)) j))=_;rw[ZU7 ha λj _ hne=>?_]
  .rw[r0];have e1:putr A a (λj=>if j=a then 1 else 0) a a=1:=by unfold putr;rw[if_pos rfl,if_pos rfl]
   rw[e1,Y1r];refine YZ (sg a * ·) (Zg λi j _ _=>?_);show putr A a (λj=>if j=a then 1 else 0) (rotN 0 a (i+1)) (sk a j)=A (sk a i) (sk a j)
   rw[Zq12];unfold putr;rw[if_neg (by unfold sk;split <;> lia)]
  .rw[r0];have e1:putr A a (λj=>if j=a then 1 else 0) a j=0:=by unfold putr;rw[if_pos rfl,if_neg hne]
   rw[e1,Y0w,Y2n]
 rw[top]at e;have h:=YZ (sg a * ·) e
 simp only [<- Y0k]at h;rw[show sg a * sg a=1 by unfold sg;split <;> rfl,Y0A,Y0A]at h
 exact h.symm
theorem ZC6{w:Int}(ha:a<n+1):det (n+1) (λi j=>A i j+w * ((if i=a then 1 else 0) * (if j=a then 1 else 0)))=det (n+1) A+w * det n (λi j=>A (sk a i) (sk a j)):=by
 have e:det (n+1) (λi j=>A i j+w * ((if i=a then 1 else 0) * (if j=a then 1 else 0)))=det (n+1) (putr A a (λj=>w * (λj=>if j=a then 1 else 0) j+A a j)):=Zg λi j _ _=>by
  unfold putr;by_cases h:i=a
  .subst h;rw[if_pos rfl,if_pos rfl,Y0A];show A i j+w * (if j=i then 1 else 0)=w * (if j=i then 1 else 0)+A i j
   exact Int.add_comm ..
  .rw[if_neg h,if_neg h,Y2n,Y0w,Y0C]
 rw[e,Yz6 ha,ZD5,ZP9 ha];lia
def ind(u v i:Nat):Int:=(if i=u then 1 else 0) - (if i=v then 1 else 0)
def Zz95(A:Mx)(a b:Nat):Mx:=λi j=>(A i j+(if i=b then A a j else 0))+(if j=b then A i a+(if i=b then A a a else 0) else 0)
theorem Zx4(ha:a<n)(hb:b<n)(hne:a≠b):det n (Zz95 A a b)=det n A:=by
 have e1:det n A=det n (putr A b (λj=>A b j+1 * A a j)):=(ZD6 hb ha (YR hne)).symm;obtain⟨R,hR⟩:∃ R:Mx,R=putr A b (λj=>A b j+1 * A a j):=⟨_,rfl⟩;have e2:det n R=det n (putr (λi j=>R j i) b (λj=>(λi j=>R j i) b j+1 * (λi j=>R j i) a j)):=by rw[ZD6 (A:=λi j=>R j i) hb ha (YR hne)];exact det_T.symm
 rw[e1,<- hR,e2,<- det_T (A:=putr (λi j=>R j i) b (λj=>(λi j=>R j i) b j+1 * (λi j=>R j i) a j))];refine Zg λi j _ _=>?_;have rv:∀ r c,R r c=A r c+(if r=b then A a c else 0):=λr c=>by
  rw[hR];unfold putr;by_cases h:r=b
  .rw[if_pos h,if_pos h,h];lia
  .rw[if_neg h,if_neg h];lia
 unfold Zz95;show _=(putr (λi j=>R j i) b (λj=>R j b+1 * R j a)) j i
 unfold putr;by_cases h:j=b
 .rw[if_pos h,if_pos h,rv,rv,h];by_cases h2:i=b
  .rw[if_pos h2,if_pos h2];lia
  .rw[if_neg h2,if_neg h2];lia
 .rw[if_neg h,if_neg h];show _=R i j
  rw[rv];lia
theorem ZI11{w:Int}(ha:a<n+1)(hb:b<n+1)(hne:a≠b):det (n+1) (λi j=>A i j+w * (ind a b i * ind a b j))=det (n+1) A+w * det n (λi j=>Zz95 A a b (sk a i) (sk a j)):=by
 have e1:=Zx4 (A:=λi j=>A i j+w * (ind a b i * ind a b j)) ha hb hne;have e2:det (n+1) (Zz95 (λi j=>A i j+w * (ind a b i * ind a b j)) a b)=det (n+1) (λi j=>Zz95 A a b i j+w * ((if i=a then 1 else 0) * (if j=a then 1 else 0))):=Zg λi j _ _=>by
  have na:¬ a=b:=hne;have nb:¬ b=a:=YR hne
  unfold Zz95 ind;by_cases hi:i=b
  .subst hi;by_cases hj:j=i
   .subst hj;simp[na,nb];lia
   .by_cases hj2:j=a
    .subst hj2;simp[na,nb,hj];lia
    .simp[na,nb,hj,hj2]
  .by_cases hi2:i=a
   .subst hi2;by_cases hj:j=b
    .subst hj;simp[na,nb];lia
    .by_cases hj2:j=i
     .subst hj2;simp[na,nb]
     .simp[na,nb,hj,hj2]
   .by_cases hj:j=b
    .subst hj;simp[na,nb,hi,hi2]
    .by_cases hj2:j=a
     .subst hj2;simp[na,nb,hi,hi2]
     .simp[na,nb,hi,hi2,hj,hj2]
 rw[<- e1,e2,ZC6 ha,Zx4 ha hb hne]
end My
namespace My
open PySem L2
abbrev Ed:=Nat × Nat × Int
def lapE:List Ed->Mx
 | []=>λ_ _=>0
 | e :: E=>λi j=>e.2.2 * (ind e.1 e.2.1 i * ind e.1 e.2.1 j)+lapE E i j
theorem ZC2(E:List Ed)(e:Ed)(i j:Nat):lapE (E++[e]) i j=lapE E i j+e.2.2 * (ind e.1 e.2.1 i * ind e.1 e.2.1 j):=by
 induction E with
 | nil=>show _+0=0+_;lia
 | cons f E ih =>
  show _+lapE (E++[e]) i j=_+lapE E i j+_;rw[ih];lia
def edE(E:List Ed)(z:Int):Nat × Nat:=((E.getD z.toNat (0,0,0)).1,(E.getD z.toNat (0,0,0)).2.1)
def wtE(E:List Ed):Ac->Int
 | []=>1
 | z :: T=>(E.getD z.toNat (0,0,0)).2.2 * wtE E T
theorem Zf10(E:List Ed)(S T:Ac):wtE E (S++T)=wtE E S * wtE E T:=by
 induction S with
 | nil=>show _=1 * _;rw[Y0A];rfl
 | cons z S ih=>show _ * wtE E (S++T)=_ * _ * _;rw[ih,Y0k]
def IsT(k:Nat)(E:List Ed)(T:Ac):Prop:=IsSet E.length T/\T.length=k/\∀ i j,i<k+1->j<k+1->Conn (T.map (edE E)) i j
def TW(k:Nat)(E:List Ed)(s:Int):Prop:=∃ L:Ab,L.Nodup/\(∀ T,T∈L↔IsT k E T)/\(L.map (wtE E)).sum=s
theorem Zr8{E:List Ed}{e:Ed}{z:Int}(h0:0<=z)(h1:z<(E.length:Int)):(E++[e]).getD z.toNat (0,0,0)=E.getD z.toNat (0,0,0):=by rw[Yy7,Yy7,Yu (by lia)]
theorem Zn4(E:List Ed)(e:Ed):(E++[e]).getD (E.length:Int).toNat (0,0,0)=e:=by rw[Yy7,Yw,Yv (Yy6 _),Y1a];rfl
theorem Zn9{e:Ed}(h:IsSet E.length T):T.map (edE (E++[e]))=T.map (edE E):=YM λz hz=>by
 have:=h.all z hz
 unfold edE;rw[Zr8 this.1 this.2]
theorem Zb12{e:Ed}(h:∀ z∈T,0<=z/\z<(E.length:Int)):wtE (E++[e]) T=wtE E T:=by
 induction T with
 | nil=>rfl
 | cons z T ih =>
  have hz:=h z Yk;show _ * wtE (E++[e]) T=_ * wtE E T
  rw[Zr8 hz.1 hz.2,ih λy hy=>h y (Yi _ hy)]
theorem Zp7{e:Ed}(h:IsSet E.length T):IsT k (E++[e]) T↔IsT k E T:=by
 have h2:IsSet (E++[e]).length T:=by rw[Yy5];exact h.up
 constructor
 .rintro⟨_,a,b⟩;exact⟨h,a,by rwa[Zn9 h]at b⟩
 .rintro⟨_,a,b⟩;exact⟨h2,a,by rwa[Zn9 h]⟩
theorem ZV5{e:Ed}(h:IsSet E.length T):(T++[(E.length:Int)]).map (edE (E++[e]))=T.map (edE E)++[(e.1,e.2.1)]:=by
 rw[YC,Zn9 h];show _++[edE (E++[e]) (E.length:Int)]=_
 unfold edE;rw[Zn4]
def sh(a x:Nat):Nat:=if x<a then x else x - 1
def dl(a b x:Nat):Nat:=if x=a then sh a b else sh a x
theorem Zm12(a y:Nat):sh a (sk a y)=y:=by
 unfold sk;by_cases h:y<a
 .rw[if_pos h];unfold sh;rw[if_pos h]
 .rw[if_neg h];unfold sh;rw[if_neg (by lia)];lia
theorem Zz713(a y:Nat):sk a y≠a:=by unfold sk;split <;> lia
theorem Zz112(h:x≠a):sk a (sh a x)=x:=by
 unfold sh;by_cases c:x<a
 .rw[if_pos c];unfold sk;rw[if_pos c]
 .rw[if_neg c];unfold sk;rw[if_neg (by lia)];lia
theorem Zz512(a b y:Nat):dl a b (sk a y)=y:=by unfold dl;rw[if_neg (Zz713 a y),Zm12]
theorem ZT8(hx:x≠a)(hy:y≠a)(h:sh a x=sh a y):x=y:=by
 have:=YZ (sk a) h
 rwa[Zz112 hx,Zz112 hy]at this
theorem ZI13(hne:b≠a)(h:dl a b x=dl a b y):x=y\/(x=a/\y=b)\/(x=b/\y=a):=by
 unfold dl at h;by_cases hx:x=a
 .rw[if_pos hx]at h;by_cases hy:y=a
  .exact .inl (hx.trans hy.symm)
  .rw[if_neg hy]at h;exact .inr (.inl ⟨hx,(ZT8 hne hy h).symm⟩)
 .rw[if_neg hx]at h;by_cases hy:y=a
  .rw[if_pos hy]at h;exact .inr (.inr ⟨ZT8 hx hne h,hy⟩)
  .rw[if_neg hy]at h;exact .inl (ZT8 hx hy h)
theorem ZJ13(a b:Nat)(hne:b≠a):dl a b a=dl a b b:=by unfold dl;rw[if_pos rfl,if_neg hne]
theorem Zz010{es:List (Nat × Nat)}{i j:Nat}(hne:b≠a)(c:Conn (es++[(a,b)]) i j):Conn (es.map λe=>(dl a b e.1,dl a b e.2)) (dl a b i) (dl a b j):=by
 induction c with
 | refl i=>exact .refl _
 | edge q =>
  rcases Ya.mp q with q | q
  .exact .edge (Yx.mpr ⟨_,q,rfl⟩)
  .have e:=Yy1.mp q;injection e with e1 e2
   rw[e1,e2,ZJ13 a b hne];exact .refl _
 | symm _ ih=>exact .symm ih
 | trans _ _ a b=>exact .trans a b
theorem ZZ9{es:List (Nat × Nat)}{u v:Nat}(hne:b≠a)(c:Conn (es.map λe=>(dl a b e.1,dl a b e.2)) u v):∀ i j,dl a b i=u->dl a b j=v->Conn (es++[(a,b)]) i j:=by
 have he:Conn (es++[(a,b)]) a b:=.edge (by simp);have same:∀ i j,dl a b i=dl a b j->Conn (es++[(a,b)]) i j:=λi j e=>by
  rcases ZI13 hne e with e | ⟨e1,e2⟩ | ⟨e1,e2⟩
  .rw[e];exact .refl _
  .rw[e1,e2];exact he
  .rw[e1,e2];exact he.symm
 induction c with
 | refl u=>exact λi j e1 e2=>same i j (e1.trans e2.symm)
 | edge q =>
  intro i j e1 e2;obtain⟨⟨x,y⟩,hxy,e⟩:=Yx.mp q;injection e with x1 x2
  exact(same i x (e1.trans x1.symm)).trans (.trans (.edge (Yg _ hxy)) (same y j (x2.trans e2.symm)))
 | symm _ ih=>exact λi j e1 e2=>(ih j i e2 e1).symm
 | @trans x y z _ _ ih1 ih2=>exact λi j e1 e2=>(ih1 i (sk a y) e1 (Zz512 a b y)).trans (ih2 (sk a y) j (Zz512 a b y) e2)
theorem Zz612{a b x k:Nat}(ha:a<k+1)(hb:b<k+2)(hne:b≠a)(hx:x<k+2):dl a b x<k+1:=by
 unfold dl sh;by_cases h:x=a
 .rw[if_pos h];split <;> grind
 .rw[if_neg h];split <;> grind
theorem cdl{a b k:Nat}{es:List (Nat × Nat)}(ha:a<k+1)(hb:b<k+2)(hne:b≠a):(∀ i j,i<k+2->j<k+2->Conn (es++[(a,b)]) i j)↔∀ i j,i<k+1->j<k+1->Conn (es.map λe=>(dl a b e.1,dl a b e.2)) i j:=by
 constructor
 .intro c i j h1 h2
  have:=Zz010 hne (c (sk a i) (sk a j) (Zu5 h1) (Zu5 h2))
  rwa[Zz512,Zz512]at this
 .exact λc i j h1 h2=>ZZ9 hne (c _ _ (Zz612 ha hb hne h1) (Zz612 ha hb hne h2)) i j rfl rfl
def drE(a b:Nat)(E:List Ed):List Ed:=E.map λe=>(dl a b e.1,dl a b e.2.1,e.2.2)
theorem Zu8{z:Int}(h0:0<=z)(h1:z<(E.length:Int)):(drE a b E).getD z.toNat (0,0,0)=(dl a b (E.getD z.toNat (0,0,0)).1,dl a b (E.getD z.toNat (0,0,0)).2.1,(E.getD z.toNat (0,0,0)).2.2):=by unfold drE;rw[Yy7,Yy7,Yp,Yy2 (by omega)];rfl
theorem Zt8(h:IsSet E.length T):T.map (edE (drE a b E))=(T.map (edE E)).map λe=>(dl a b e.1,dl a b e.2):=by
 rw[Y2m];refine YM λz hz=>?_
 have:=h.all z hz
 unfold edE;rw[Zu8 this.1 this.2];rfl
theorem ZX12(h:∀ z∈T,0<=z/\z<(E.length:Int)):wtE (drE a b E) T=wtE E T:=by
 induction T with
 | nil=>rfl
 | cons z T ih =>
  have hz:=h z Yk;show _ * wtE (drE a b E) T=_ * wtE E T
  rw[Zu8 hz.1 hz.2,ih λy hy=>h y (Yi _ hy)]
theorem Zm11{e:Ed}(ha:a<k+1)(hb:b<k+2)(hne:b≠a)(he:(e.1=a/\e.2.1=b)\/(e.1=b/\e.2.1=a))(h:IsSet E.length T):IsT (k+1) (E++[e]) (T++[(E.length:Int)])↔IsT k (drE a b E) T:=by
 have hl:(drE a b E).length=E.length:=Yc ..;have hc:(∀ i j,i<k+2->j<k+2->Conn ((T++[(E.length:Int)]).map (edE (E++[e]))) i j)↔∀ i j,i<k+2->j<k+2->Conn (T.map (edE E)++[(a,b)]) i j:=by
  rw[ZV5 h];rcases he with ⟨e1,e2⟩ | ⟨e1,e2⟩
  .rw[e1,e2]
  .rw[e1,e2];exact⟨λc i j x y=>ZC4 (c i j x y),λc i j x y=>ZC4 (c i j x y)⟩
 have h2:IsSet (E++[e]).length (T++[(E.length:Int)]):=by rw[Yy5];exact h.snoc
 constructor
 .rintro⟨_,x,y⟩;refine⟨hl ▸ h,?_,?_⟩
  .rw[Yy5,YB]at x;lia
  .rw[Zt8 h];exact(cdl ha hb hne).mp (hc.mp y)
 .rintro⟨_,x,y⟩;rw[Zt8 h]at y;refine⟨h2,by rw[Yy5,YB,x],hc.mpr ((cdl ha hb hne).mpr y)⟩
theorem Zy9{E:List Ed}{e:Ed}(hE:∀ f∈E,f.1<k+1/\f.2.1<k+1)(he:e.1=e.2.1)(h:IsSet E.length T):¬ IsT k (E++[e]) (T++[(E.length:Int)]):=by
 rintro⟨_,x,y⟩;rw[ZV5 h]at y;have hcov:∀ i j,i<k+1->j<k+1->Conn (T.map (edE E)) i j:=λi j hi hj=>(y i j hi hj).lift λf hf=>by
  rcases Ya.mp hf with q | q
  .exact .edge q
  .rw[Yy1.mp q,he];exact .refl _
 have hin:InN (k+1) (T.map (edE E)):=λf hf=>by
  obtain⟨z,hz,rfl⟩:=Yx.mp hf
  have:=h.all z hz
  unfold edE;rw[Yy7,Yy2 (by lia)];exact hE _ (Y0R _)
 have h2:=(Zz21 (by lia) hin).mpr hcov;have h3:=ZB8 _ hin
 rw[Yc]at h3;rw[Yy5,YB]at x;lia
theorem Zj10{e:Ed}(hE:∀ f∈E,f.1<k+1/\f.2.1<k+1)(he:e.1=e.2.1)(h:TW k E s):TW k (E++[e]) s:=by
 obtain⟨L,a1,a2,a3⟩:=h;refine⟨L,a1,λT=>?_,?_⟩
 .rw[a2];constructor
  .exact λh=>(Zp7 h.1).mpr h
  .intro h;have hs:=h.1
   rw[Yy5]at hs;rcases Zx5 hs with c | ⟨T',c,c2⟩
   .exact(Zp7 c).mp h
   .exact absurd (c ▸ h) (Zy9 hE he c2)
 .rw[<- a3];refine YZ List.sum (YM λT hT=>Zb12 ((a2 T).mp hT).1.all)
theorem Zq10(a b:Ac):(a++b).sum=a.sum+b.sum:=by
 induction a with
 | nil=>rw[Y1S,List.sum_nil,Y1N]
 | cons x a ih=>rw[Y1M,Y0J,Y0J,ih];lia
theorem Zz47(w:Int)(l:Ab)(f:Ac->Int):(l.map λT=>f T * w).sum=w * (l.map f).sum:=by
 induction l with
 | nil=>rw[Y2T,Y2T,List.sum_nil,Y0w]
 | cons x l ih=>rw[YU,YU,Y0J,Y0J,ih,Y1W,Y0V]
theorem Zi10{e:Ed}(ha:a<k+1)(hb:b<k+2)(hne:b≠a)(he:(e.1=a/\e.2.1=b)\/(e.1=b/\e.2.1=a))(h1:TW (k+1) E s1)(h2:TW k (drE a b E) s2):TW (k+1) (E++[e]) (s1+e.2.2 * s2):=by
 obtain⟨L,a1,a2,a3⟩:=h1;obtain⟨M,b1,b2,b3⟩:=h2;have hl:(drE a b E).length=E.length:=Yc ..
 refine⟨L++M.map (·++[(E.length:Int)]),Y0d.mpr ⟨a1,?_,λx hx y hy c=>?_⟩,λT=>?_,?_⟩
 .exact List.Pairwise.map _ (λx y h c=>h (List.append_cancel_right c)) b1
 .obtain⟨z,hz,c2⟩:=Yx.mp hy
  have:=((a2 x).mp hx).1.all (E.length:Int) (by rw[c,<- c2];simp)
  lia
 .rw[Ya,a2,Yx];constructor
  .rintro(h | ⟨T',hT,rfl⟩)
   .exact(Zp7 h.1).mpr h
   .have:=(b2 T').mp hT
    exact(Zm11 ha hb hne he (hl ▸ this.1)).mpr this
  .intro h;have hs:=h.1
   rw[Yy5]at hs;rcases Zx5 hs with c | ⟨T',c,c2⟩
   .exact .inl ((Zp7 c).mp h)
   .exact .inr ⟨T',(b2 T').mpr ((Zm11 ha hb hne he c2).mp (c ▸ h)),c.symm⟩
 .rw[YC,Zq10,Y2m];have e1:L.map (wtE (E++[e]))=L.map (wtE E):=YM λT hT=>Zb12 ((a2 T).mp hT).1.all
  have e2:M.map (wtE (E++[e]) ∘ (·++[(E.length:Int)]))=M.map λT=>wtE (drE a b E) T * e.2.2:=YM λT hT=>by
   have hs:IsSet E.length T:=hl ▸ ((b2 T).mp hT).1;show wtE (E++[e]) (T++[(E.length:Int)])=_
   rw[Zf10,Zb12 hs.all,ZX12 hs.all];show _ * (((E++[e]).getD (E.length:Int).toNat (0,0,0)).2.2 * 1)=_
   rw[Zn4,Y1r]
  rw[e1,e2,a3,Zz47,b3]
theorem Zp11(hne:b≠a):ind (dl a b u) (dl a b v) i=ind u v (sk a i)+(if sk a i=b then ind u v a else 0):=by
 have key:∀ x:Nat,((if i=dl a b x then 1 else 0:Int))=(if sk a i=x then 1 else 0)+(if sk a i=b then (if a=x then 1 else 0) else 0):=λx=>by
  unfold dl;by_cases hx:x=a
  .rw[if_pos hx,if_neg (show ¬ sk a i=x from hx ▸ Zz713 a i),Y1N];by_cases h:sk a i=b
   .rw[if_pos h,if_pos hx.symm,if_pos];rw[<- h,Zm12]
   .rw[if_neg h,if_neg];intro e;exact h (by rw[e,Zz112 hne])
  .rw[if_neg hx];have e2:(if sk a i=b then (if a=x then 1 else 0:Int) else 0)=0:=by rw[if_neg (YR hx)];split <;> rfl
   rw[e2,Y0C];by_cases h:sk a i=x
   .rw[if_pos h,if_pos];rw[<- h,Zm12]
   .rw[if_neg h,if_neg];intro e;exact h (by rw[e,Zz112 hx])
 unfold ind;rw[key u,key v];by_cases h:sk a i=b
 .rw[if_pos h,if_pos h,if_pos h];lia
 .rw[if_neg h,if_neg h,if_neg h];lia
theorem Zd8(hne:b≠a)(i j:Nat):∀ E:List Ed,lapE (drE a b E) i j=Zz95 (lapE E) a b (sk a i) (sk a j)
 | []=>by
  show(0:Int)=_;unfold Zz95 lapE;by_cases h:sk a i=b
  .by_cases h2:sk a j=b
   .rw[if_pos h,if_pos h2];rfl
   .rw[if_pos h,if_neg h2];rfl
  .by_cases h2:sk a j=b
   .rw[if_neg h,if_pos h2];rfl
   .rw[if_neg h,if_neg h2];rfl
 | e :: E=>by
  have ih:=Zd8 hne i j E;show e.2.2 * (ind (dl a b e.1) (dl a b e.2.1) i * ind (dl a b e.1) (dl a b e.2.1) j)+lapE (drE a b E) i j=_
  rw[ih,Zp11 hne,Zp11 hne];unfold Zz95;show _=(e.2.2 * (ind e.1 e.2.1 (sk a i) * ind e.1 e.2.1 (sk a j))+lapE E (sk a i) (sk a j)+(if sk a i=b then e.2.2 * (ind e.1 e.2.1 a * ind e.1 e.2.1 (sk a j))+lapE E a (sk a j) else 0))+(if sk a j=b then (e.2.2 * (ind e.1 e.2.1 (sk a i) * ind e.1 e.2.1 a)+lapE E (sk a i) a)+(if sk a i=b then e.2.2 * (ind e.1 e.2.1 a * ind e.1 e.2.1 a)+lapE E a a else 0) else 0)
  generalize ind e.1 e.2.1 (sk a i)=x;generalize ind e.1 e.2.1 (sk a j)=y;generalize ind e.1 e.2.1 a=z;generalize e.2.2=w;by_cases h:sk a i=b
  .by_cases h2:sk a j=b
   .simp only [if_pos h,if_pos h2,Y1W,Y3e];lia
   .simp only [if_pos h,if_neg h2,Y1W,Y3e,Y0C,Y0w];lia
  .by_cases h2:sk a j=b
   .simp only [if_neg h,if_pos h2,Y1W,Y3e,Y0C,Y2n];lia
   .simp only [if_neg h,if_neg h2,Y0C]
theorem Za6(u v i:Nat):ind v u i=- ind u v i:=by unfold ind;lia
theorem ZK11{e:Ed}(ha:a<k+1)(hb:b<k+2)(hne:b≠a)(he:(e.1=a/\e.2.1=b)\/(e.1=b/\e.2.1=a)):det (k+1) (lapE (E++[e]))=det (k+1) (lapE E)+e.2.2 * det k (lapE (drE a b E)):=by
 have e1:det (k+1) (lapE (E++[e]))=det (k+1) (λi j=>lapE E i j+e.2.2 * (ind a b i * ind a b j)):=Zg λi j _ _=>by
  rw[ZC2];rcases he with ⟨x,y⟩ | ⟨x,y⟩
  .rw[x,y]
  .rw[x,y,Za6 a b i,Za6 a b j,Int.neg_mul_neg]
 have e2:det k (lapE (drE a b E))=det k (λi j=>Zz95 (lapE E) a b (sk a i) (sk a j)):=Zg λi j _ _=>Zd8 hne i j E;rw[e1,e2];by_cases hk:b<k+1
 .exact ZI11 ha hk (YR hne)
 .have e3:det (k+1) (λi j=>lapE E i j+e.2.2 * (ind a b i * ind a b j))=det (k+1) (λi j=>lapE E i j+e.2.2 * ((if i=a then 1 else 0) * (if j=a then 1 else 0))):=Zg λi j hi hj=>by unfold ind;rw[if_neg (show ¬ i=b by lia),if_neg (show ¬ j=b by lia),Y2W,Y2W]
  have e4:det k (λi j=>Zz95 (lapE E) a b (sk a i) (sk a j))=det k (λi j=>lapE E (sk a i) (sk a j)):=Zg λi j hi hj=>by
   have h1:=Zu5 (j:=a) hi;have h2:=Zu5 (j:=a) hj
   unfold Zz95;rw[if_neg (show ¬ sk a i=b by lia),if_neg (show ¬ sk a j=b by lia),Y0C,Y0C]
  rw[e3,e4];exact ZC6 ha
theorem Zf4{e:Ed}(he:e.1=e.2.1):lapE (E++[e])=lapE E:=by
 funext i j
 rw[ZC2,he];unfold ind;rw[Int.sub_self,Y2n,Y0w,Y0C]
theorem Zk1:∀(m k:Nat) (E:List Ed),E.length=m->(∀ e∈E,e.1<k+1/\e.2.1<k+1)->TW k E (det k (lapE E))
 | 0,k,E,hm,_=>by
  obtain rfl:=YV.mp hm;cases k with
  | zero =>
   refine⟨[[]],by simp,λT=>?_,rfl⟩;rw[Yy1];constructor
   .rintro rfl;exact⟨IsSet.nil _,rfl,λi j hi hj=>by
     have:i=j:=by lia
     rw[this];exact .refl j⟩
   .intro h;exact YV.mp h.2.1
  | succ k =>
   refine⟨[],.nil,λT=>⟨λh=>(by cases h),λh=>?_⟩,?_⟩
   .have h1:=h.1.len;have h2:=h.2.1
    rw[Yy12]at h1;lia
   .exact(Zx6 (i:=0) (by lia) λj _=>rfl).symm
 | m+1,k,E,hm,hE=>by
  obtain⟨E',e,rfl⟩:∃ E' e,E=E'++[e]:=⟨E.dropLast,E.getLast (λh=>by rw[h]at hm;cases hm),(Y2U _).symm⟩;have hm':E'.length=m:=by rw[Yy5]at hm;simpa using hm
  have hE':∀ f∈E',f.1<k+1/\f.2.1<k+1:=λf hf=>hE f (Yg _ hf);have he:=hE e (by simp)
  have ih:=Zk1 m k E' hm' hE';by_cases hl:e.1=e.2.1
  .rw[Zf4 hl];exact Zj10 hE' hl ih
  .obtain⟨k',rfl⟩:∃ k',k=k'+1:=⟨k - 1,by lia⟩;obtain⟨a,b,ha,hb,hne,hab⟩:∃ a b,a<k'+1/\b<k'+2/\b≠a/\((e.1=a/\e.2.1=b)\/(e.1=b/\e.2.1=a)):=by
    by_cases c:e.1<k'+1
    .exact⟨e.1,e.2.1,c,he.2,λh=>hl h.symm,.inl ⟨rfl,rfl⟩⟩
    .exact⟨e.2.1,e.1,by lia,he.1,hl,.inr ⟨rfl,rfl⟩⟩
   have ih2:=Zk1 m k' (drE a b E') (by unfold drE;rwa[Yc]) λf hf=>by
    obtain⟨g,hg,rfl⟩:=Yx.mp hf
    have:=hE' g hg
    exact⟨Zz612 ha hb hne this.1,Zz612 ha hb hne this.2⟩
   rw[ZK11 ha hb hne hab];exact Zi10 ha hb hne hab ih ih2
def ZK1(ps:Aa)(ws:Ac):List Ed:=List.zipWith (λp w=>(p.1.toNat,p.2.toNat,w)) ps ws
theorem Zf8(h1:1<=n)(hw:ws.length=ps.length):IsT (n - 1).toNat (ZK1 ps ws) T↔Zf n ps T:=by
 have hl:(ZK1 ps ws).length=ps.length:=by unfold ZK1;rw[Y1f];grind
 have hm:IsSet ps.length T->T.map (edE (ZK1 ps ws))=Zz7 ps T:=λhs=>YM λz hz=>by
  have:=hs.all z hz
  unfold edE ZK1;rw[Yy7,Y0O,Yy2 (by lia),Yy2 (show z.toNat<ws.length by lia),Yy7,Yy2 (by omega)];rfl
 unfold IsT Zf;rw[hl];constructor
 .rintro⟨a,b,c⟩;rw[hm a]at c;exact⟨a,by lia,λi j hi hj=>c i j (by lia) (by grind)⟩
 .rintro⟨a,b,c⟩;rw[hm a];exact⟨a,by lia,λi j hi hj=>c i j (by lia) (by lia)⟩
theorem Ze10(h:∀ e∈E,e.2.2=1):∀ {T:Ac},(∀ z∈T,0<=z/\z<(E.length:Int))->wtE E T=1
 | [],_=>rfl
 | z :: T,hb=>by
  have hz:=hb z Yk;show(E.getD z.toNat (0,0,0)).2.2 * wtE E T=1
  rw[Ze10 h λy hy=>hb y (Yi _ hy),Y1r,Yy7,Yy2 (by lia)];exact h _ (Y0R _)
theorem ZJ8{l:Ab}{f:Ac->Int}(h:∀ T∈l,f T=1):(l.map f).sum=(l.length:Int):=by
 induction l with
 | nil=>rfl
 | cons x l ih =>
  rw[YU,Y0J,ih λT hT=>h T (Yi _ hT),h x Yk,Yz];lia
theorem ZF11(g:Zy n ps)(ws:Ac):∀ e∈ZK1 ps ws,e.1<(n - 1).toNat+1/\e.2.1<(n - 1).toNat+1:=λe he=>by
 unfold ZK1 at he;obtain⟨i,hi⟩:=Y0f he;rw[Y0O]at hi;have g1:=g.1
 cases h1:ps[i]? with
 | none=>rw[h1]at hi;cases hi
 | some p =>
  cases h2:ws[i]? with
  | none=>rw[h1,h2]at hi;cases hi
  | some w =>
   rw[h1,h2]at hi;obtain rfl:=Yd hi;obtain⟨a,b,c,d⟩:=g.2.2.2 p (Yy8 h1);exact⟨by show p.1.toNat<_;grind,by show p.2.toNat<_;lia⟩
theorem ZI8(g:Zy n ps){L:Ab}(hL:L.Nodup)(hm:∀ l,l∈L↔Zf n ps l):det (n - 1).toNat (lapE (ZK1 ps (List.replicate ps.length 1)))=(L.length:Int):=by
 have g1:=g.1;have hw:(List.replicate ps.length (1:Int)).length=ps.length:=YF
 obtain⟨M,a1,a2,a3⟩:=Zk1 _ (n - 1).toNat (ZK1 ps (List.replicate ps.length 1)) rfl (ZF11 g _);have hl:(ZK1 ps (List.replicate ps.length 1)).length=ps.length:=by unfold ZK1;rw[Y1f,hw];grind
 have w1:∀ e∈ZK1 ps (List.replicate ps.length (1:Int)),e.2.2=1:=λe he=>by
  unfold ZK1 at he;obtain⟨i,hi⟩:=Y0f he;rw[Y0O]at hi;cases h1:ps[i]? with
  | none=>rw[h1]at hi;cases hi
  | some p =>
   cases h2:(List.replicate ps.length (1:Int))[i]? with
   | none=>rw[h1,h2]at hi;cases hi
   | some w =>
    rw[h1,h2]at hi;obtain rfl:=Yd hi;exact Y1i (Yy8 h2)
 rw[<- a3,ZJ8 λT hT=>Ze10 w1 ((a2 T).mp hT).1.all];have hp:M.Perm L:=(List.perm_ext_iff_of_nodup a1 hL).mpr λl=>by rw[a2,hm,Zf8 g1 hw]
 rw[hp.length_eq]
end My
namespace L2
open PySem PySem.Spec PyProof.Rows
section
variable{X:Cx}
def Zv13(K:Ad):V->V->Hp->VK->Prop:=λx y H Q=>∃ p xs i v,x=.ref p/\y=.int i/\SqL K H p xs/\0<=i/\xs[i.toNat]?=some v/\Q v H
theorem ZO1(K:Ad)(hk:X.K=K:=by rfl):PGet X (Zv13 K):=by
 subst hk;intro pins s σ H o i ov iv Q I ro ri h;obtain⟨p,xs,j,z,rfl,rfl,hq,h0,he,q⟩:=h;cases ro;obtain⟨t,rfl⟩:=ri;obtain⟨its,r,pl,hz⟩:=I.list hq;obtain⟨w,ew,rw'⟩:=r.get he;have hl:=r.length
 have hn:=Zz46;have hlt:=(Yy3.mp he).1
 exact wpAny_getItem_list pl.isList h0 (by lia) (by simpa using ew) ⟨z,H,I,rw',q⟩
end
end L2
namespace My
open PySem L2
theorem Zx11{g:TG}{tb:TS}{D:Ends}(hxy:xs.length=ys.length)(Pv:Nat->St->Hp->Prop)(h0:Pv 0 σ H)(hl:∀ i σ H,i<=xs.length->Pv i σ H->SqL K H a xs/\SqL K H b ys)
  (hs:∀(i:Nat) x y σ H (p:Addr),H p=none->xs[i]?=some x->ys[i]?=some y->Pv i σ H->g (.ref p) σ (upd H p (.tup [x,y])) λσ2 H2=>tb { D with nx:=Pv (i+1),ct:=Pv (i+1),bk:=D.nx } σ2 H2) (hd:∀ σ H,Pv xs.length σ H->D.nx σ H) :
  ∃ W:Nat->Nat->St->Hp->Prop,(∃ m,W 0 m σ H)/\∀ i m σ H,W i m σ H ->
   ((Itz K a b).stop i H/\D.nx σ H)\/((Itz K a b).go i H/\∃ N:St->Hp->Prop,(∀ σ' H',N σ' H'->∃ m',m'<m/\W (i+1) m' σ' H')/\∀ x H',(Itz K a b).yld i H x H'->g x σ H' λσ2 H2=>tb { D with nx:=N,ct:=N,bk:=D.nx } σ2 H2):=by
 refine⟨λi m σ H=>m=xs.length - i/\i<=xs.length/\Pv i σ H,⟨xs.length,by simp,Yl _,h0⟩,?_⟩;rintro i m σ H ⟨rfl,hi,p⟩;obtain⟨q,q2⟩:=hl i σ H hi p;by_cases hlt:i<xs.length
 .refine .inr ⟨⟨xs,ys,xs[i],ys[i]'(by lia),q,q2,by simp[hlt],Yy2 (by omega)⟩,Pv (i+1),λσ' H' p'=>⟨xs.length - (i+1),by grind,rfl,hlt,p'⟩,λx H' ⟨T,u,v,hT,ex,eH,hu,hv⟩=>?_⟩;subst ex eH;exact hs i u v σ H T hT (hu xs q) (hv ys q2) p
 .have e:i=xs.length:=by lia
  subst e;exact .inl ⟨⟨xs,ys,q,q2,.inl (Yy6 _)⟩,hd σ H p⟩
structure TabAt (H0:Hp) (r:Addr) (n:Nat) (H:Hp) (ys:List V) (L:Ab):Prop where
 tab:H r=some (.lst ys)
 rows:Bears (LiV r H) ys L
 len:L.length=n
 all:∀ l∈L,l.length=n
 nd:ys.Nodup
 new:∀ A,V.ref A∈ys->H0 A=none
theorem TabAt.same(s:Same H H')(h:TabAt H0 r n H ys L):TabAt H0 r n H' ys L:=⟨s _ _ h.tab,h.rows.imp λ_ _ q=>q.same s,h.len,h.all,h.nd,h.new⟩
theorem TabAt.at(h:TabAt H0 r n H ys L){i:Nat}(hi:i<n):∃(A:Addr) (l:Ac),ys[i]?=some (.ref A)/\L[i]?=some l/\H A=some (.lst (IL l))/\l.length=n/\H0 A=none/\A≠r:=by have hl:=h.len;obtain⟨l,e⟩:∃ l,L[i]?=some l:=⟨_,Yy2 (by lia)⟩;obtain⟨v,e1,A,rfl,e2,e3⟩:=h.rows.2 i l e;exact⟨A,l,e1,e,e2,h.all l (Yy8 e),h.new A (Yy8 e1),e3⟩
theorem TabAt.put(h:TabAt H0 r n H ys L){l l':Ac}(e1:ys[i]?=some (.ref A))(e2:L[i]?=some l)(e3:A≠r)(hl:l'.length=n):TabAt H0 r n (upd H A (.lst (IL l'))) ys (L.set i l'):=by
 have hi:=(Yy3.mp e2).1;have hil:=(Yy3.mp e1).1
 refine⟨by rw[Zz9 (YR e3)];exact h.tab,⟨by rw[Y0y];exact h.rows.1,λj m em=>?_⟩,by rw[Y0y];exact h.len,λm hm=>?_,h.nd,h.new⟩
 .rw[Y0v]at em;by_cases c:i=j
  .subst c;rw[if_pos rfl,if_pos hi]at em;obtain rfl:=Yd em;exact⟨_,e1,A,rfl,Zz1,e3⟩
  .rw[if_neg c]at em;obtain⟨v,f1,B,rfl,f2,f3⟩:=h.rows.2 j m em;refine⟨_,f1,B,rfl,?_,f3⟩;rw[Zz9]
   .exact f2
   .intro e;rw[e]at f1;exact c (nodup_get h.nd e1 f1)
 .rcases List.mem_or_eq_of_mem_set hm with e | e
  .exact h.all m e
  .rw[e];exact hl
theorem Zy11{L:Ab}{l:Ac}(hi:L[i]?=some l)(hj:j<l.length)(a b:Nat):fnL (L.set i (l.set j x)) a b=if a=i/\b=j then x else fnL L a b:=by
 have hil:=(Yy3.mp hi).1;unfold fnL;by_cases ha:a=i
 .subst ha;have e1:(L.set a (l.set j x)).getD a []=l.set j x:=by rw[Yy7,Y0v,if_pos rfl,if_pos hil];rfl
  have e2:L.getD a []=l:=by rw[Yy7,hi];rfl
  rw[e1,e2];by_cases hb:b=j
  .subst hb;rw[if_pos ⟨rfl,rfl⟩,Yy7,Y0v,if_pos rfl,if_pos hj];rfl
  .rw[if_neg (λh=>hb h.2),Yy7,Y0v,if_neg (YR hb),<- Yy7]
 .have e1:(L.set i (l.set j x)).getD a []=L.getD a []:=by rw[Yy7,Yy7,Y0v,if_neg (YR ha)]
  rw[e1,if_neg (λh=>ha h.1)]
theorem four{A:Mx}{u v:Nat}{w:Int}(hne:u≠v)(a b:Nat){B C D E:Mx}(h1:∀ a b,B a b=if a=u/\b=u then A u u+w else A a b)(h2:∀ a b,C a b=if a=v/\b=v then B v v+w else B a b)(h3:∀ a b,D a b=if a=u/\b=v then C u v - w else C a b)(h4:∀ a b,E a b=if a=v/\b=u then D v u - w else D a b):E a b=A a b+w * (ind u v a * ind u v b):=by
 have nv:¬ v=u:=YR hne;unfold ind;by_cases x1:a=u
 .subst x1;by_cases y1:b=a
  .subst y1;simp[h4,h3,h2,h1,hne,nv]
  .by_cases y2:b=v
   .subst y2;simp[h4,h3,h2,h1,hne,nv];lia
   .simp[h4,h3,h2,h1,hne,nv,y1,y2]
 .by_cases x2:a=v
  .subst x2;by_cases y1:b=u
   .subst y1;simp[h4,h3,h2,h1,hne,nv];omega
   .by_cases y2:b=a
    .subst y2;simp[h4,h3,h2,h1,hne,nv]
    .simp[h4,h3,h2,h1,hne,nv,y1,y2]
  .simp[h4,h3,h2,h1,hne,nv,x1,x2]
theorem ZN9{ps:Aa}{ws:Ac}{p:Int × Int}{w:Int}(hp:ps[i]?=some p)(hw:ws[i]?=some w):ZK1 (ps.take (i+1)) (ws.take (i+1))=ZK1 (ps.take i) (ws.take i)++[(p.1.toNat,p.2.toNat,w)]:=by
 have h1:=(Yy3.mp hp).1;have h2:=(Yy3.mp hw).1
 unfold ZK1;rw[YS,YS,hp,hw];rw[List.zipWith_append (by rw[YI,YI];grind)];rfl
end My
namespace L2
open PySem
def Ris(t:SetTable):Prop:=t.place.toList.Pairwise (· < ·)
theorem ZL4{xs:Array Nat}(h:xs.toList.Pairwise (· < ·)){i k a b:Nat}(hik:i<k)(ha:xs[i]?=some a)(hb:xs[k]?=some b):a<b:=by rw[<- YQ]at ha hb;obtain⟨h1,e1⟩:=Yy3.mp ha;obtain⟨h2,e2⟩:=Yy3.mp hb;rw[<- e1,<- e2];exact Yy07.mp h i k h1 h2 hik
theorem ZO2(h:xs.toList.Pairwise (· < ·)):∀(f lo hi:Nat),hi - lo<=f->lo<=hi->hi<=xs.size->(∀ i v,xs[i]?=some v->i<lo->v<j)->(∀ i v,xs[i]?=some v->hi<=i->j<=v) ->
  SetTable.below.go xs j f lo hi<=xs.size/\∀ i v,xs[i]?=some v->(i<SetTable.below.go xs j f lo hi↔v<j)
 | 0,lo,hi,hf,hl,hs,a,b=>by
  have e:lo=hi:=by grind
  unfold SetTable.below.go;refine⟨by lia,λi v hv=>⟨a i v hv,λhvj=>Nat.lt_of_not_le λhc=>?_⟩⟩
  have:=b i v hv (by lia)
  lia
 | f+1,lo,hi,hf,hl,hs,a,b=>by
  unfold SetTable.below.go;by_cases c:lo<hi
  .rw[if_pos c];dsimp only;obtain⟨m,hm⟩:∃ m,xs[(lo+hi) / 2]?=some m:=⟨_,YE (by lia)⟩;have em:xs.getD ((lo+hi) / 2) j=m:=by rw[Ys,hm];rfl
   rw[em];by_cases d:m<j
   .rw[if_pos d];refine ZO2 h f _ hi (by grind) (by lia) hs (λi v hv hi2=>?_) b;by_cases e:i=(lo+hi) / 2
    .rw[e,hm]at hv;exact Yd hv ▸ d
    .have:=ZL4 h (show i<(lo+hi) / 2 by lia) hv hm
     lia
   .rw[if_neg d];refine ZO2 h f lo _ (by grind) (by lia) (by lia) a λi v hv hi2=>?_;by_cases e:i=(lo+hi) / 2
    .rw[e,hm]at hv
     have:=Yd hv
     lia
    .have:=ZL4 h (show(lo+hi) / 2<i by lia) hm hv
     lia
  .rw[if_neg c];refine⟨by grind,λi v hv=>⟨a i v hv,λhvj=>Nat.lt_of_not_le λhc=>?_⟩⟩
   have:=b i v hv (by lia)
   lia
theorem Zn1(h:xs.toList.Pairwise (· < ·))(j:Nat):SetTable.below xs j<=xs.size/\∀ i v,xs[i]?=some v->(i<SetTable.below xs j↔v<j) :=
 ZO2 h xs.size 0 xs.size (by lia) (Yl _) (Yy6 _) (λi v _ h=>absurd h (Yy02 _)) λi v hv hi=>by rw[Y1x hi]at hv;cases hv
theorem Zz210(h:xs.toList.Pairwise (· < ·)){i v:Nat}(hv:xs[i]?=some v):SetTable.below xs v=i:=by
 obtain⟨h1,h2⟩:=Zn1 h v;have a:¬ i<SetTable.below xs v:=λq=>by have:=(h2 i v hv).mp q;lia
 refine Yy32 (by lia) (Y1I λq=>?_);have hlt:=(Array.getElem?_eq_some_iff.mp hv).1
 obtain⟨u,hu⟩:∃ u,xs[SetTable.below xs v]?=some u:=⟨_,YE (by lia)⟩;have b:=ZL4 h q hu hv
 have:=(h2 _ u hu).mpr b
 lia
theorem ZX6(h:xs.toList.Pairwise (· < ·)){i v:Nat}(hv:xs[i]?=some v):SetTable.below xs (v+1)=i+1:=by
 obtain⟨h1,h2⟩:=Zn1 h (v+1);have a:=(h2 i v hv).mpr (Y0i v)
 refine Yy32 (Y1I λq=>?_) a;obtain⟨u,hu⟩:∃ u,xs[i+1]?=some u:=⟨_,YE (by lia)⟩;have b:=(h2 _ u hu).mp q
 have:=ZL4 h (Y0i i) hv hu
 lia
theorem ZW6(h:xs.toList.Pairwise (· < ·)):SetTable.below xs 0=0:=by obtain⟨h1,h2⟩:=Zn1 h 0;refine Nat.le_zero.mp (Y1I λq=>?_);obtain⟨u,hu⟩:∃ u,xs[0]?=some u:=⟨_,YE (by lia)⟩;exact Yy02 _ ((h2 _ u hu).mp q)
def Zz75(t:SetTable)(j:Nat):Prop:=t.place[SetTable.below t.place j]?≠some j
theorem ZC10(h:Ris t)(hn:Zz75 t j):Ris (t.put j).1:=by
 obtain⟨h1,h2⟩:=Zn1 h j;have up:∀ i v,t.place[i]?=some v->SetTable.below t.place j<=i->j<v:=λi v hv hi=>by
  have a:¬ v<j:=λq=>by have:=(h2 i v hv).mpr q;lia
  have b:v≠j:=λe=>hn (by rw[e]at hv;rwa[Zz210 h hv]);lia
 show(SetTable.insertAt t.place (SetTable.below t.place j) j).toList.Pairwise (· < ·);rw[SetTable.toList_insertAt];have dn:∀ x∈t.place.toList.take (SetTable.below t.place j),x<j:=λx hx=>by
  obtain⟨i,hi⟩:=Y0f hx;rw[Y2y]at hi;split at hi
  .rename_i q;rw[YQ]at hi;exact(h2 i x hi).mp q
  .cases hi
 have ub:∀ x∈t.place.toList.drop (SetTable.below t.place j),j<x:=λx hx=>by obtain⟨i,hi⟩:=Y0f hx;rw[List.getElem?_drop,YQ]at hi;exact up _ x hi (Y2c _ _)
 refine YY.mpr ⟨Y3B (Y1y _ _) h,Yy03.mpr ⟨ub,Y3B (List.drop_sublist _ _) h⟩,λa ha b hb=>?_⟩;rcases Ye.mp hb with e | e
 .rw[e];exact dn a ha
 .exact Nat.lt_trans (dn a ha) (ub b e)
theorem ZV2(h:t.slot j=.empty\/t.slot j=.dummy):Zz75 t j:=λe=>by
 have e2:t.slot j=.live (SetTable.below t.place j):=by unfold SetTable.slot;dsimp only;rw[if_pos (by rw[e];simp)]
 rw[e2]at h;rcases h with h | h <;> cases h
theorem ZW1{f:Nat->Int}:∀(n:Nat) (p:SetTable.Probe) (j:Nat) (d:Option Nat),(∀ e,p.dummy=some e->Zz75 t e)->SetTable.probe.go t f h n p=some (.empty j d)->Zz75 t j/\∀ e,d=some e->Zz75 t e
 | 0,p,j,d,_,h=>by cases h
 | n+1,p,j,d,hp,h=>by
  have adv:∀ q:SetTable.Probe,(t.advance q).dummy=q.dummy:=λq=>by unfold SetTable.advance;split <;> rfl
  unfold SetTable.probe.go at h;split at h
  .rename_i hs;cases h;exact⟨ZV2 (.inl hs),hp⟩
  .rename_i hs;exact ZW1 n _ j d (λe he=>by rw[adv]at he;cases he;exact ZV2 (.inr hs)) h
  .split at h
   .cases h
   .exact ZW1 n _ j d (λe he=>hp e (by rwa[adv]at he)) h
theorem ZA7{b:Bool}(e:t.freeSlot h=some (s,b)):Zz75 t s:=by
 unfold SetTable.freeSlot at e;split at e
 .rename_i j d hp;obtain⟨a1,a2⟩:=ZW1 _ _ j d (λe he=>by cases he) hp;have e1:=YZ Prod.fst (Yd e)
  dsimp only at e1;rw[<- e1];cases d with
  | none=>exact a1
  | some x=>exact a2 x rfl
 .cases e
theorem ZM1(t:SetTable)(n:Nat):Ris (t.standIn n):=by show(Array.range n).toList.Pairwise (· < ·);rw[Array.toList_range];exact Y1v
theorem ZD10(h:Ris t)(es:Array (Int × Value))(k:Int)(x:Value):Ris (layNew t es k x).2.1/\(layNew t es k x).2.1.led=t.led:=by
 unfold layNew;split
 .rename_i s b e;dsimp only;unfold SetTable.orStandIn;split
  .exact⟨ZC10 h (ZA7 e),rfl⟩
  .exact⟨ZM1 _ _,rfl⟩
 .exact⟨ZM1 _ _,rfl⟩
theorem Zz87(h:Ris t)(es:Array (Int × Value))(n:Nat):Ris (relayAll t es n).2.1/\(relayAll t es n).2.1.led=t.led:=by
 unfold relayAll;split
 .rename_i t' order e;dsimp only;split
  .unfold SetTable.relaid SetTable.laid at e;cases ho:SetTable.layClean (SetTable.sizeAbove n - 1) (es.map (·.1)) with
   | none=>rw[ho]at e;cases e
   | some owner =>
    rw[ho]at e;have e1:=YZ Prod.fst (Yd e)
    dsimp only at e1;rw[<- e1];refine⟨?_,rfl⟩;show(List.map _ (List.filterMap _ _)).toArray.toList.Pairwise (· < ·)
    rw[List.toList_toArray,Yy24,List.pairwise_filterMap];refine Y1v.imp λ{a b} hab x hx y hy=>?_;have ex:x.1=a:=by
     cases q:owner.getD a none with
     | none=>rw[q]at hx;cases hx
     | some z=>rw[q]at hx;cases hx;rfl
    have ey:y.1=b:=by
     cases q:owner.getD b none with
     | none=>rw[q]at hy;cases hy
     | some z=>rw[q]at hy;cases hy;rfl
    rwa[ex,ey]
  .exact⟨ZM1 _ _,rfl⟩
 .exact⟨ZM1 _ _,rfl⟩
end L2
namespace L2
open PySem PySem.Spec PyProof.Rows
def SetR(P:Program)(w:World)(h:Heap)(a:Addr)(led:Bool)(S:Int->Bool)(n:Nat):Prop :=
 ∃(o:Obj) (es:Array (Int × Value)) (ep:Nat) (t:SetTable),h.get? a=some o/\o.ExactSet/\o.data=.set es ep t/\ElemsOf (intKind P w) es.toList/\(∀ z,S z=true↔∃ y∈es.toList,(intKind P w).is z y.2=true)/\es.size<scanBound/\t.fits es.size=true/\es.size=n/\Ris t/\t.led=led
theorem SetR.at{S:Int->Bool}(q:SetR P w h a led S n)(k:∀ o,h.get? a=some o->h'.get? a=some o):SetR P w h' a led S n :=
 let ⟨o,es,ep,t,ho,r⟩:=q
 ⟨o,es,ep,t,k o ho,r⟩
section
variable{prog:Program}{w:World}{A:Around}{E:Ae}{s:Shared}
theorem ZX2{h:Heap}{o:Obj}{es:Array (Int × Value)}{ep:Nat}{t:SetTable}(ho:h.get? a=some o)(hx:o.ExactSet)(hd:o.data=.set es ep t)(fs:Array (Int × Value))(u:SetTable) :
  (h.update a (Obj.putSet fs u)).get? a=some { o with data:=.set fs (ep+1) u }/\({ o with data:=.set fs (ep+1) u }:Obj).ExactSet:=by have q:=Yy00 (Obj.putSet fs u) ho (by rw[putSet_of fs u hd];rfl);rw[putSet_of fs u hd]at q;exact⟨q,hx⟩
theorem Zz610{gv:Bool->Sem Unit}(hgv:∀(b:Bool) (s1:Shared) (R:Unit->Shared->Prop),R () s1->wpAny (model prog w) A (gv b) R E s1)
 {o:Obj} {es fs:Array (Int × Value)} {ep:Nat} {t u:SetTable} (ho:s.heap.get? a=some o) (hx:o.ExactSet) (hd:o.data=.set es ep t)
  {S:Int->Bool} (he:ElemsOf (intKind prog w) fs.toList) (hm:∀ z,S z=true↔∃ y∈fs.toList,(intKind prog w).is z y.2=true) (hb:fs.size<scanBound) (hf:u.fits fs.size=true) (hr:Ris u) {dm:Bool} {R:Option Bool->Shared->Prop}
  (k:∀ h',Heap.SameBut a s.heap h'->SetR prog w h' a u.led S fs.size->R (some true) { s with heap:=h' }) :
  wpAny (model prog w) A (do
   storeSet a fs u
   if (!dm && u.tooFull)=true then do
    gv (relayAll u fs (SetTable.grown fs.size)).2.2
    storeSet a (relayAll u fs (SetTable.grown fs.size)).1 (relayAll u fs (SetTable.grown fs.size)).2.1
    pure (some true)
   else pure (some true)) R E s:=by
 obtain⟨h1,x1⟩:=ZX2 ho hx hd fs u;have b1:=Y0e s.heap a (Obj.putSet fs u)
 refine Yy0 (wpAny_storeSet_of ho hd ?_ (fits_of_scanBound hb));by_cases c:(!dm && u.tooFull)=true
 .rw[if_pos c];have p:=relayAll_perm u fs (SetTable.grown fs.size)
  have f:=relayAll_fits u fs (SetTable.grown fs.size);obtain⟨r,l⟩:=Zz87 hr fs (SetTable.grown fs.size);generalize relayAll u fs (SetTable.grown fs.size)=Z at p f r l ⊢;obtain⟨gs,v,gave⟩:=Z;dsimp only at p f r l ⊢;have ez:gs.size=fs.size:=by rw[<- YA,p.length_eq,YA]
  obtain⟨h2,x2⟩:=ZX2 h1 x1 rfl gs v;refine Yy0 (hgv _ _ _ (Yy0 (wpAny_storeSet_of h1 rfl (Yf ?_) (fits_of_scanBound (by rwa[ez])))));exact k _ (b1.trans (Y0e _ a _)) ⟨_,gs,_,v,h2,x2,rfl,he.perm p,λz=>(hm z).trans ⟨λ⟨y,hy,q⟩=>⟨y,p.mem_iff.mpr hy,q⟩,λ⟨y,hy,q⟩=>⟨y,p.mem_iff.mp hy,q⟩⟩,by rw[ez];exact hb,f,ez,r,l⟩
 .rw[if_neg c];exact Yf (k _ b1 ⟨_,fs,_,u,h1,x1,rfl,he,hm,hb,hf,rfl,hr,rfl⟩)
theorem ZY11{S:Int->Bool}{z:Int}{x:Value}{R:Bool->Shared->Prop}(hz:(intKind prog w).is z x=true)(hsc:x.scannable=true)(hS:SetR prog w s.heap a led S n)(room:n+1<scanBound)
  (k:∀ h',Heap.SameBut a s.heap h'->SetR prog w h' a led (λy=>S y || decide (y=z)) (if S z then n else n+1)->R (!S z) { s with heap:=h' }) :
  wpAny (model prog w) A (setAddHashed a x ((intKind prog w).hash z)) R E s:=by
 obtain⟨o,es,ep,t,ho,hx,hd,he,hm,hb,hf,hn,hr,hl⟩:=hS;unfold setAddHashed setAddHashedIn;refine Y0D (Yy0 (Y1k ho hd hf ?_));dsimp only;rw[if_pos (byScan_of hsc hb he)];unfold setAddByScan;refine Yy0 (Yy0 (Y2p (Yy0 (wpAny_setScan_of hz ho hd hf he ?_))));cases hw:List.findIdx? (λy=>(intKind prog w).is z y.2) es.toList with
 | some j =>
  obtain⟨j1,j2,_⟩:=List.findIdx?_eq_some_iff_getElem.mp hw;have yes:S z=true:=(hm z).mpr ⟨es.toList[j],Y0R j1,j2⟩
  have fin:=k s.heap (Heap.SameBut.refl a s.heap) ⟨o,es,ep,t,ho,hx,hd,he,λy=>by rw[Bool.or_eq_true,Y2G,<- hm y];exact⟨λq=>q.elim id λq=>q ▸ yes,.inl⟩,hb,hf,by rw[yes];exact hn,hr,hl⟩
  rw[yes]at fin;dsimp only;exact Yf (Yf fin)
 | none =>
  have no:S z=false:=Bool.eq_false_iff.mpr λq=>by
   obtain⟨y,hy,hp⟩:=(hm z).mp q
   have:=List.findIdx?_eq_none_iff.mp hw y hy
   rw[hp]at this;cases this
  dsimp only;have p:=layNew_perm t es ((intKind prog w).hash z) x
  have f:=layNew_fits t es ((intKind prog w).hash z) x;obtain⟨r,l⟩:=ZD10 hr es ((intKind prog w).hash z) x;generalize layNew t es ((intKind prog w).hash z) x=Z at p f r l ⊢;obtain⟨fs,u,dm,gave⟩:=Z;dsimp only at p f r l ⊢;rw[Y2K]at p;have ez:fs.size=n+1:=by rw[<- YA,p.length_eq,Yy5,YA,hn];rfl
  have gw:∀(b:Bool) {s1:Shared} {R':Unit->Shared->Prop},R' () s1->wpAny (model prog w) A (match b with | true=>rule "set.scan.the-table-gave-way" | false=>pure ()) R' E s1:=λb s1 R' q=>by
   cases b
   .exact Yf q
   .exact Y2p q
  have fin:∀ h',Heap.SameBut a s.heap h'->SetR prog w h' a led (λy=>S y || decide (y=z)) fs.size->R true { s with heap:=h' }:=λh' q1 q2=>by have q:=k h' q1;rw[no]at q;rw[ez]at q2;exact q q2
  have he1:=(he.push hz hsc).perm p;have hm1:∀ y,(S y || decide (y=z))=true↔∃ v∈fs.toList,(intKind prog w).is y v.2=true:=mem_push_iff hz hm p
  have hb1:fs.size<scanBound:=by lia
  refine Yy0 (gw _ ?_);have tail:∀ v:SetTable,v.fits fs.size=true->Ris v->v.led=led->wpAny (model prog w) A (do
    storeSet a fs v
    if (!dm && v.tooFull)=true then do
     (match (relayAll v fs (SetTable.grown fs.size)).2.2 with | true=>rule "set.scan.the-table-gave-way" | false=>pure ())
     storeSet a (relayAll v fs (SetTable.grown fs.size)).1 (relayAll v fs (SetTable.grown fs.size)).2.1
     pure (some true)
    else pure (some true)) (λy s1=>wpAny (model prog w) A (match y with | some added=>pure added | none=>setAddHashedIn a x ((intKind prog w).hash z) 99999) R E s1) E s:=λv a1 a2 a3 =>
   Zz610 (gv:=λb=>match b with | true=>rule "set.scan.the-table-gave-way" | false=>pure ()) (λb s1 R' q=>gw b q) ho hx hd he1 hm1 hb1 a1 a2 λh' q1 q2=>Yf (fin h' q1 (a3 ▸ q2))
  split
  .refine Yy0 ?_;rw[hashByValue_scannable 8 hsc];refine Yf ?_;split
   .exact tail u f r (l.trans hl)
   .exact tail _ (SetTable.fits_plain_off f) r (l.trans hl)
  .refine Yy0 (Yf ?_);rw[if_pos rfl];exact tail u f r (l.trans hl)
end
section
variable{prog:Program}{w:World}{A:Around}{R:Result->Shared->Prop}{I:Addr}{fp wr:List Addr}{G:Array GenState->Array GenState->Prop}{n:Nat}{P:Nat->Value->Prop}{St:Nat->Shared->Prop}
theorem Zz26(W:WalksS prog w A.in1 I fp wr G n P St)(b:Addr)(hbf:b∉fp)(val:Nat->Int)(hv:∀ i v,P i v->∃ t,v=.int (val i) t)(hn:n+1<scanBound) :
  ∀(k i:Nat) (s:Shared),n - i=k->i<=n->St i s->SetR prog w s.heap b led (λz=>(firstMet val i).any (· == z)) (firstMet val i).length ->
   (∀ s',Moved (b :: wr) G s s'->SetR prog w s'.heap b led (λz=>(firstMet val n).any (· == z)) (firstMet val n).length->R (.ok (.ret .none)) s') ->
   codeAny (model prog w) A (.builtin "set.update.loop" ⟨[.ref b,.ref I],[]⟩) R s
 | 0,i,s,hk,hi,st,hS,q=>by
  have e:i=n:=by grind
  subst e;refine Yy01 F.entry_set_update_loop ?_;rw[Y0s Y2M _];show wpAny _ A.in1 (pyNext (.ref I) >>= _) _ _ s
  refine Yy0 (W.done s _ _ st λs1 m=>?_);show wpAny _ A.in1 (ret Value.none) _ _ s1
  exact Yf (q s1 (m.mono λc hc=>.tail _ hc) (hS.at λo ho=>m.heap b o (λhc=>hbf (W.sub _ hc)) ho))
 | k+1,i,s,hk,hi,st,hS,q=>by
  have hlt:i<n:=by grind
  refine Yy01 F.entry_set_update_loop ?_;rw[Y0s Y2M _];show wpAny _ A.in1 (pyNext (.ref I) >>= _) _ _ s
  refine Yy0 (W.item i s _ _ hlt st λv s1 hP st1 m=>?_);obtain⟨t,rfl⟩:=hv i v hP;have hS1:=hS.at (h':=s1.heap) λo ho=>m.heap b o (λhc=>hbf (W.sub _ hc)) ho
  show wpAny _ A.in1 (holding [Value.int (val i) t] (setAdd b (.int (val i) t)) >>= _) _ _ s1;refine Yy0 (Y0D ?_);unfold setAdd;refine Y0D (Yy0 ((intKind prog w).pyHash (k:=val i) (intKind_is _ _ _ _) ?_));have fm:=firstMet_length_le val i
  refine ZY11 (s:={ s1 with toks:=s1.toks+1 }) (intKind_is _ _ _ _) rfl hS1 (by lia) λh2 sb hS2=>?_;have hS3:SetR prog w h2 b led (λz=>(firstMet val (i+1)).any (· == z)) (firstMet val (i+1)).length:=by
   have e1:(λz=>(firstMet val (i+1)).any (· == z))=λy=>((firstMet val i).any (· == y) || decide (y=val i)):=funext λy=>by rw[firstMet_succ,step_any]
   rwa[e1,firstMet_succ,step_length]
  have kept:∀ c o,c≠b->s1.heap.get? c=some o->h2.get? c=some o:=λc o hc e=>(sb.2 c hc).trans e;refine Yf ⟨Yy11 Y2M _,Zz26 W b hbf val hv hn k (i+1) _ (by grind) hlt (W.frame _ s1 _ _ st1 (Y0P _) λc hc o e=>kept c o (λe'=>hbf (e' ▸ hc)) e) hS3 λs2 m2 hS4=>?_⟩;exact q s2 (Moved.trans W.gtrans ((m.mono λc hc=>.tail _ hc).then_heap (Y0P _) λc o hc e=>kept c o (λe'=>hc (e' ▸ .head _)) e) m2) hS4
end
section
variable{prog:Program}{w:World}{A:Around}{E:Ae}{s:Shared}
def Zb3 (w:World):Obj:={ cls:=.type "set",dict:=none,data:=.set #[] 0 (.fresh 0 0 (!w.params.followText "set-order")) }
theorem Zz311(a:Value){Q:Ae}(k:Q (.ref s.heap.objs.size) { s with heap:=s.heap.push (Zb3 w) }) :
  codeAny (model prog w) A (.call (.builtin "set.__new__") ⟨[.type "set",a],[]⟩) (wants Q E) s:=by
 refine codeAny_of_tree ?_;show wpAny _ A.in1 (checkBuiltinCall "set.__new__" ⟨[.type "set",a],[]⟩ >>= λ_=>again (.builtin "set.__new__" ⟨[.type "set",a],[]⟩)) _ _ s
 refine Yy0 (Y1m (F.newCall_set_1 a) (Yf ⟨Yy11 F.plain_set_new _,Yy01 F.entry_set_new ?_⟩));rw[Y0s F.plain_set_new _];have hsub:=sub_set_self
 unfold Builtin.«set.__new__» Builtin.Frozenset.newClass;obtain⟨hp,g,d,tk,os⟩:=s;dsimp only
 wp_walk
 refine Y1t (Yf ?_);simp only [newObj];refine Yy0 (wpAny_alloc (Yf (Yf k)))
theorem Zz97 (e:h.get? a=some (Zb3 w)):SetR prog w h a (!w.params.followText "set-order") (λz=>(firstMet (λ_=>0) 0).any (· == z)) 0:=by refine⟨_,#[],0,_,e,⟨rfl,rfl,rfl⟩,rfl,λy hy=>(by cases hy),λz=>⟨λq=>(by cases q),λ⟨y,hy,_⟩=>(by cases hy)⟩,by decide,by simp[SetTable.fits,SetTable.fresh,SetTable.fill],rfl,.nil,rfl⟩
theorem ZY8{h0:Heap}{Q:Ae}(hh:A.handled=none)(hb0:h0.get? b=some (Zb3 w))(hl:h0.IsList l items)(hne:l≠b)(hi:IntsAre items.toList ns)(hn:items.size+1<scanBound)
  (k:∀ h' tk,SetR prog w h' b (!w.params.followText "set-order") (λz=>(firstMet (λi=>ns.getD i 0) items.size).any (· == z)) (firstMet (λi=>ns.getD i 0) items.size).length->(∀ c o,c≠b->h0.get? c=some o->h'.get? c=some o)->Q .none { s with heap:=h',toks:=tk }) :
  wpAny (model prog w) A.in1 (Builtin.«set.__init__» ⟨[.ref b,.ref l],[]⟩) (λfin s'=>match fin with | .done f=>wants Q E (.ok f) s' | .again c'=>c'.quiet=true/\codeAny (model prog w) A c' (wants Q E) s') (λe s'=>wants Q E (.error e) s') { s with heap:=h0 }:=by
 have hT:Shared.TypeIs { s with heap:=h0 } (.ref b) "set":=⟨_,hb0,rfl⟩;have hl0:=hl
 obtain⟨⟨ocls,odict,odata,oslots⟩,hol,hcl,nl,hdl⟩:=hl;simp only at hcl hdl;subst hcl hdl;have q1:=F.sub_list_set
 have q2:=F.sub_list_frozenset;have q3:(Value.type "list" == Value.type "dict")=false:=by decide
 unfold Zb3 at hb0;unfold Builtin.«set.__init__» noKeywords Builtin.Frozenset.updateFrom;generalize hPI:pyIter=PI
 wp_walk
 subst hPI;refine Y2g hl0 ?_;refine Yy0 (Y2O ?_);have ltl:l<h0.objs.size:=Yh hol
 have ltb:b<h0.objs.size:=Yh hb0;have bf:b∉[h0.objs.size,l]:=λq=>by
  rcases Ye.mp q with e | e
  .exact Yo ltb e
  .exact hne (Yy1.mp e).symm
 refine Zz26 ((Walks.list (A:=A.in1.in1) (by simp [hh]) _ l (Yo ltl) items).toS) b bf (led:=!w.params.followText "set-order") (λi=>ns.getD i 0) (λi v hv=>IntsAre.int_at hi i v (by rw [YQ];exact hv)) hn (items.size - 0) 0 _ (by lia) (Yl _)
  ⟨⟨_,Yj _ rfl,rfl,rfl⟩,hl0.push _⟩ ?_ ?_
 .exact Zz97 (Yy4 _ hb0)
 .rintro⟨h',g',d',tk',os'⟩ m hS;have e1:g'=s.gens:=m.gens
  have e2:d'=s.drawn:=m.drawn;have e3:os'=s.os:=m.os
  subst e1 e2 e3;show wpAny _ _ _ _ _ _
  refine Yf ?_;show wpAny _ _ (ret Value.none) _ _ _
  refine Yf (k h' tk' hS λc o hc e=>m.heap c o (λq=>?_) (Yy4 _ e));rcases Ye.mp q with e' | e'
  .exact hc e'
  .exact Yo (Yh e) (Yy1.mp e')
set_option maxRecDepth 100000 in
set_option maxHeartbeats 3000000 in
theorem Zv10{Q:Ae}(hh:A.handled=none)(hl:s.heap.IsList l items)(hi:IntsAre items.toList ns)(hn:items.size+1<scanBound)
  (k:∀ h' tk,SetR prog w h' s.heap.objs.size (!w.params.followText "set-order") (λz=>(firstMet (λi=>ns.getD i 0) items.size).any (· == z)) (firstMet (λi=>ns.getD i 0) items.size).length->(∀ c o,s.heap.get? c=some o->h'.get? c=some o)->Q (.ref s.heap.objs.size) { s with heap:=h',toks:=tk }) :
  wpAny (model prog w) A (call (.type "set") [.ref l]) Q E s:=by
 obtain⟨c,tl,hmro⟩:=Y1F.mro;have a1:=Y1F.made
 have a2:=Y1F.sub;have a3:=Y1F.notType
 have a4:=Y1F.canCreate;have a5:=F.typeCall_set_1 (.ref l)
 refine Y3q (codeAny_of_tree ?_);show wpAny _ _ (callAny (.type "set") _) _ _ _
 refine Yf ⟨Y1G _ (by decide +kernel),Yy01 F.entry_type_call ?_⟩;rw [Around.under_plain (weight_type_call_type "set" [.ref l] []) rfl]
 repeat any_goals first | assumption | wp_step
 refine Y1l (Zz311 (.ref l) (E:=E) (Q:=λob s1=>ob=.ref s.heap.objs.size/\s1={ s with heap:=s.heap.push (Zb3 w) }) ⟨rfl,rfl⟩) λr s1 hr=>?_
 match r,hr with
 | .error e,hr=>exact hr
 | .ok (.ret ob),hr =>
  obtain⟨rfl,rfl⟩:=hr;have hb0:(s.heap.push (Zb3 w)).get? s.heap.objs.size=some (Zb3 w):=Yj _ rfl
  have hT:Shared.TypeIs { s with heap:=s.heap.push (Zb3 w) } (.ref s.heap.objs.size) "set":=⟨_,hb0,rfl⟩;have a6:=Y1F.init.lookup
  have a7:=Y1F.init.bind (.ref s.heap.objs.size)
  repeat any_goals first | assumption | wp_step
  have ltl:l<s.heap.objs.size:=let ⟨_,e,_⟩:=hl;Yh e
  refine Y1l (Y2H (R:=wants (λr s2=>r=.none/\Q (.ref s.heap.objs.size) s2) E) Y1F.init.plain F.entry_set_init (check_set_init_1 hT (ZY8 (A:=_) (s:=s) ?_ hb0 (hl.push _) (Yo ltl) hi hn λh' tk hS kp=>⟨rfl,k h' tk hS λc o e=>kp c o (Yo (Yh e)) (Yy4 _ e)⟩))) λr2 s2 hr2=>?_
  .simp[hh]
  .match r2,hr2 with
   | .error e,hr2=>exact hr2
   | .ok (.ret v),hr2 =>
    obtain⟨rfl,q⟩:=hr2
    repeat any_goals first | assumption | wp_step
end
theorem Zv5:Manifest.owners.lookup (String.ofList ['r','o','t','a','r','e','t','i','_','t','e','s'].reverse)=some Manifest.sig_set_iterator:=by kernel_rfl
theorem si_next:PySem.Slot "set_iterator" "__next__" "set_iterator.__next__" :=
 .of (owner:="set_iterator") (n:="__next__") (by rw [Y2B,Y1Q];kernel_rfl) (by decide +kernel) (by decide +kernel) (by decide +kernel)
  (by first | exact .inl (by decide +kernel) | exact .inr (by decide +kernel)) (by rw[isSubtype_type];kernel_rfl)
theorem Zr2:entryFor table "set_iterator.__next__"=some Builtin.«set_iterator.__next__»:=entryFor_of_tree (by kernel_rfl)
theorem Zs2 (a:Value):argsOk "set_iterator.__next__" ⟨[a],[]⟩:=by unfold argsOk;rw [signature?_of (id:="set_iterator.__next__") (n:=['_','_','t','x','e','n','_','_']) (o:=['r','o','t','a','r','e','t','i','_','t','e','s']) (by kernel_rfl) Zv5];kernel_rfl
theorem ZW7:PySem.Slot "set_iterator" "__iter__" "set_iterator.__iter__" :=
 .of (owner:="set_iterator") (n:="__iter__") (by rw [Y2B,Y1Q];kernel_rfl) (by decide +kernel) (by decide +kernel) (by decide +kernel)
  (by first | exact .inl (by decide +kernel) | exact .inr (by decide +kernel)) (by rw[isSubtype_type];kernel_rfl)
theorem ZS8 (a:Value):argsOk "set_iterator.__iter__" ⟨[a],[]⟩:=by unfold argsOk;rw [signature?_of (id:="set_iterator.__iter__") (n:=['_','_','r','e','t','i','_','_']) (o:=['r','o','t','a','r','e','t','i','_','t','e','s']) (by kernel_rfl) Zv5];kernel_rfl
theorem ZR8:entryFor table "set_iterator.__iter__"=some Builtin.«dict_keyiterator.__iter__» :=
 entryFor_alias (id':="dict_keyiterator.__iter__") (by kernel_rfl) (by first | rfl | decide +kernel | (unfold String.splitOn;simp +decide [String.splitOnAux])) (by decide +kernel) (by kernel_rfl)
theorem ZM8:Manifest.owners.lookup (String.ofList ['t','e','s'].reverse)=some Manifest.sig_set:=by kernel_rfl
theorem ZT7:PySem.Slot "set" "__iter__" "set.__iter__" :=
 .of (owner:="set") (n:="__iter__") (by rw [Y2B,Y1Q];kernel_rfl) (by decide +kernel) (by decide +kernel) (by decide +kernel)
  (by first | exact .inl (by decide +kernel) | exact .inr (by decide +kernel)) (by rw[isSubtype_type];kernel_rfl)
theorem ZO8 (a:Value):argsOk "set.__iter__" ⟨[a],[]⟩:=by unfold argsOk;rw [signature?_of (id:="set.__iter__") (n:=['_','_','r','e','t','i','_','_']) (o:=['t','e','s']) (by kernel_rfl) ZM8];kernel_rfl
theorem ZN8:entryFor table "set.__iter__"=some Builtin.«frozenset.__iter__» :=
 entryFor_alias (id':="frozenset.__iter__") (by kernel_rfl) (by first | rfl | decide +kernel | (unfold String.splitOn;simp +decide [String.splitOnAux])) (by decide +kernel) (by kernel_rfl)
def IsSi (h:Heap) (I a:Addr) (f:Value) (i n ep:Nat):Prop:=∃ o,h.get? I=some o/\o.cls=.type "set_iterator"/\o.data=.fields #[f,rawInt (i:Int),.ref a,rawInt (n:Int),rawInt (ep:Int)]
theorem IsSi.ty {s:Shared} (x:IsSi s.heap I a f i n ep):s.TypeIs (.ref I) "set_iterator":=let ⟨o,p,q,_⟩:=x;⟨o,p,q⟩
theorem IsSi.keep(x:IsSi h I a f i n ep)(e:∀ o,h.get? I=some o->h'.get? I=some o):IsSi h' I a f i n ep:=let ⟨o,p,q⟩:=x;⟨o,e _ p,q⟩
def SetIs(h:Heap)(a:Addr)(es:Array (Int × Value))(ep:Nat)(t:SetTable):Prop:=∃ o,h.get? a=some o/\o.ExactSet/\o.data=.set es ep t
theorem SetIs.keep(x:SetIs h a es ep t)(e:∀ o,h.get? a=some o->h'.get? a=some o):SetIs h' a es ep t:=let ⟨o,p,q⟩:=x;⟨o,e _ p,q⟩
section
variable{prog:Program}{w:World}{A:Around}{E:Ae}{s:Shared}
theorem ZQ6{Q:Nat->Shared->Prop}(hn:n≠0)(k:∀ i,i<n->∀ d,Q i { s with drawn:=d }):wpAny M A (choose src n) Q E s :=
 λΓ p _=>⟨hn,k _ (Nat.mod_lt _ (Nat.pos_of_ne_zero hn)) _⟩
theorem Zb2{α:Type}:∀ {l:List α} {i:Nat} {y:α},l[i]?=some y->(y :: l.eraseIdx i).Perm l
 | [],_,_,h=>by simp at h
 | x :: l,0,y,h=>by obtain rfl:x=y:=Yd h;exact .rfl
 | x :: l,i+1,y,h=>(List.Perm.swap x y (l.eraseIdx i)).trans ((Zb2 (l:=l) (i:=i) h).cons x)
theorem Zv6{α:Type}:∀(n:Nat) (xs:List α) (s:Shared) (Q:List α->Shared->Prop),n=xs.length->(∀ ys d,ys.Perm xs->Q ys { s with drawn:=d })->wpAny M A (drawOrder n xs) Q E s
 | 0,xs,s,Q,h,k=>by have e:xs=[]:=YV.mp h.symm;subst e;exact Yf (k [] s.drawn .rfl)
 | n+1,[],s,Q,h,k=>by cases h
 | n+1,x :: xs,s,Q,h,k=>by show wpAny M A (choose .order (x :: xs).length >>= _) Q E s;refine Yy0 (ZQ6 (by simp) λi hi d=>?_);obtain⟨y,hy⟩:∃ y,(x :: xs)[i]?=some y:=⟨_,Yy2 hi⟩;rw[hy];dsimp only;refine Yy0 (Zv6 n ((x :: xs).eraseIdx i) _ _ (by rw[Yy34 hi];lia) λys d' hp=>Yf (k (y :: ys) d' ?_));exact(hp.cons y).trans (Zb2 hy)
theorem Zz44{α:Type}{f:Nat->Nat}:∀(n k:Nat) (l:List α) (out:Array α),n=l.length->(pickOrder.go f n k l out).toList.Perm (out.toList++l)
 | 0,k,l,out,h=>by rw[YV.mp h.symm,YO];exact .rfl
 | n+1,k,l,out,h=>by have hi:f k % l.length<l.length:=Nat.mod_lt _ (by lia);obtain⟨y,hy⟩:∃ y,l[f k % l.length]?=some y:=⟨_,Yy2 hi⟩;unfold pickOrder.go;rw[hy];dsimp only;refine(Zz44 n (k+1) _ _ (by rw[Yy34 hi];lia)).trans ?_;rw[Y2K,Yy09];refine List.Perm.append_left _ ?_;exact Zb2 hy
theorem ZV7{Q:Ae}(hr:IsSi s.heap I a f i n ep)(h:Q (.ref I) s):wpAny (model prog w) A (pyIter (.ref I)) Q E s:=by
 refine wpAny_pyIter_slot hr.ty ZW7 (Y0m ZW7 hr.ty ZR8 ?_ (ZS8 _));show wpAny _ _ (ret (.ref I)) _ _ s
 exact Yf ⟨_,rfl,"set_iterator",_,hr.ty,si_next.lookup,h⟩
def Zz85(prog:Program)(w:World)(a:Addr)(es:Array (Int × Value))(ep:Nat)(t:SetTable)(ord:Ag)(sl:Nat->Nat):Prop :=
 ∀(A:Around) (E:Ae) (s:Shared) (i:Nat) (Q:Option (Value × Nat)->Shared->Prop),SetIs s.heap a es ep t->i<=ord.length->Q ((ord[i]?).map λx=>(x,sl (i+1))) s->wpAny (model prog w) A (setNext a (sl i) i ep) Q E s
theorem Zu10{sl:Nat->Nat}{i:Nat}{x:Value}{Q:Option Value->Shared->Prop}(hN:Zz85 prog w a es ep t ord sl)(hS:SetIs s.heap a es ep t)(hf:t.fits es.size=true)(hi:IsSi s.heap I a (rawInt (sl i:Nat)) i es.size ep)(hx:ord[i]?=some x)
  (k:∀ h',IsSi h' I a (rawInt (sl (i+1):Nat)) (i+1) es.size ep->Heap.SameBut I s.heap h'->Q (some x) { s with heap:=h' }):wpAny (model prog w) A (pyNext (.ref I)) Q E s:=by
 obtain⟨o,ho,hc,hd⟩:=id hi;obtain⟨oa,hoa,hxa,hda⟩:=id hS;unfold pyNext;refine Yy0 (Y1H (Y0g (name:=Str.ofString "__next__") hi.ty si_next (Y0m si_next hi.ty Zr2 ?_ (Zs2 _))));unfold Builtin.«set_iterator.__next__»;refine Yy0 (Y1m (a:=(Value.ref I,[])) rfl ?_);dsimp only;refine Yy0 (Y2P ho hd ?_);dsimp only [rawInt];refine Yy0 (Y1s hoa hda hf ?_);rw[if_neg (by simp)];rw[Yw,Yw,Yw];refine Yy0 (hN _ _ s i _ hS (Y1J (Yy3.mp hx).1) ?_);rw[hx];dsimp only [Option.map_some];refine Yy0 (Yy17 ho hd (by simp) ?_);have ho2:=Yy00 (Obj.mapFields (λvs=>vs.setIfInBounds 0 (rawInt (sl (i+1):Nat)))) ho (Y1c (Yy06 hd _))
 refine Yy0 (Yy17 ho2 (Yy06 hd _) (by simp) ?_);refine Yf ⟨x,rfl,Yf (k _ ⟨_,Yy00 _ ho2 (Y1c (Yy06 (Yy06 hd _) _)),?_,?_⟩ ((Y0e ..).trans (Y0e ..)))⟩
 .rw[Y2h,Y2h];exact hc
 .rw[Yy06 (Yy06 hd _)];simp;rfl
theorem Zl12{sl:Nat->Nat}{Q:Option Value->Shared->Prop}(hh:A.handled=none)(hN:Zz85 prog w a es ep t ord sl)(hS:SetIs s.heap a es ep t)(hf:t.fits es.size=true)(hi:IsSi s.heap I a (rawInt (sl ord.length:Nat)) ord.length es.size ep)
  (k:∀ h',Heap.ExtBut I s.heap h'->Q none { s with heap:=h' }):wpAny (model prog w) A (pyNext (.ref I)) Q E s:=by
 obtain⟨o,ho,hc,hd⟩:=id hi;obtain⟨oa,hoa,hxa,hda⟩:=id hS;unfold pyNext;refine Yy0 (Y1H (Y0g (name:=Str.ofString "__next__") hi.ty si_next (Y0m si_next hi.ty Zr2 ?_ (Zs2 _))));unfold Builtin.«set_iterator.__next__»;refine Yy0 (Y1m (a:=(Value.ref I,[])) rfl ?_);dsimp only;refine Yy0 (Y2P ho hd ?_);dsimp only [rawInt];refine Yy0 (Y1s hoa hda hf ?_);rw[if_neg (by simp)];rw[Yw,Yw,Yw];refine Yy0 (hN _ _ s ord.length _ hS (Yy6 _) ?_);rw[YJ (Yy6 _)];dsimp only [Option.map_none];refine Yy0 (Yy17 ho hd (by simp) ?_);show wpAny _ _ (newExc (.type "StopIteration") [] >>= _) _ _ _
 refine Yy0 ?_;simp only [newExc,newTuple];refine Yy0 (Y0h ?_ (by size_fits));refine Yy0 (m:=firstArgMember _ _) (Y1m (a:=Value.none) (by first | rfl | (simp only [firstArgMember];rfl)) ?_)
 refine Y0h ?_ (by size_fits);simp only [raiseNew];refine Yy0 (wpAny_handled ?_);rw[show A.in1.handled=none from hh];refine Yy0 (Yf (wpAny_throw ?_));refine Yy0 (Y2q (T:="StopIteration") (b:=true) ⟨_,Yj _ rfl,rfl⟩ isSubtype_stop ?_);exact Yf (k _ ((((Y0e ..).extBut).push _).push _))
theorem ZQ8{sl:Nat->Nat}(hh:A.handled=none)(hN:Zz85 prog w a es ep t ord sl)(hf:t.fits es.size=true)(hne:a≠I) :
  Walks prog w A I [I,a] [I] ord.length (λi v=>ord[i]?=some v) (λi h=>i<=ord.length/\IsSi h I a (rawInt (sl i:Nat)) i es.size ep/\SetIs h a es ep t) where
 sub:=λb hb=>Ye.mpr (.inl (Yy1.mp hb))
 frame:=λ_ _ _ x hk=>⟨x.1,x.2.1.keep λo e=>hk I (by simp) o e,x.2.2.keep λo e=>hk a (by simp) o e⟩
 item:=λi s Q E hi ⟨_,x1,x2⟩ hQ=>by have hx:ord[i]?=some (ord[i]'hi):=Yy2 hi;exact Zu10 hN x2 hf x1 hx λh' y hs=>hQ _ h' s.toks hx ⟨hi,y,x2.keep λo e=>(hs.2 a hne).trans e⟩ λb o hb eo=>hs.extBut b o (λe=>hb (by simp[e])) eo
 done:=λs Q E ⟨_,x1,x2⟩ hQ=>Zl12 hh hN x2 hf x1 λh' he=>hQ h' s.toks λb o hb eo=>he b o (λe=>hb (by simp[e])) eo
 self:=λ_ _ _ _ x hQ=>ZV7 x.2.1 hQ
theorem Zh9 (hf:t.fits es.size=true) (hr:Ris t) (hb:w.params.followText "set-order"=false) (hl:t.led=true) (hd:(!t.plain && decide (es.size > 1))=false) :
  Zz85 prog w a es ep t (es.toList.map (·.2)) (λi=>if i=0 then 0 else (t.place.getD (i - 1) 0)+1):=by
 intro A E s i Q ⟨o,ho,hx,hda⟩ hi q;have hps:t.place.size=es.size:=by unfold SetTable.fits at hf;simp only [Y0r,Y0X]at hf;exact hf.1
 rw[Yc,YA]at hi;unfold setNext;refine Yy0 (Y1k ho hda hf ?_);dsimp only;refine Yy0 ?_;unfold setsByText;refine Yy0 (Y1t (Yf ?_));show wpAny _ _ (if (w.params.followText "set-order")=true then _ else _) _ _ _
 rw[if_neg (by rw[hb];decide)];show wpAny _ _ (if (!t.plain && decide (es.size > 1))=true then _ else _) _ _ _
 rw[if_neg (by rw[hd];decide)];refine Yy0 ?_;show wpAny _ _ (if (!t.led && !es.isEmpty)=true then _ else _) _ _ _
 rw[if_neg (by rw[hl];simp)];refine Yf ?_;have eb:SetTable.below t.place (if i=0 then 0 else (t.place.getD (i - 1) 0)+1)=i:=by
  by_cases c:i=0
  .rw[if_pos c,c];exact ZW6 hr
  .rw[if_neg c];obtain⟨v,hv⟩:∃ v,t.place[i - 1]?=some v:=⟨_,YE (by lia)⟩;have e:t.place.getD (i - 1) 0=v:=by rw[Ys,hv];rfl
   rw[e,ZX6 hr hv];lia
 rw[eb];refine Yf ?_;by_cases c:i<es.size
 .obtain⟨v,hv⟩:∃ v,t.place[i]?=some v:=⟨_,YE (by lia)⟩;obtain⟨y,hy⟩:∃ y,es[i]?=some y:=⟨_,YE c⟩;have e:t.place.getD i 0=v:=by rw[Ys,hv];rfl
  rw[Yp,YQ,hy]at q;rw[hv,hy];simp only [Yy31,Y2w,e,if_neg (Nat.succ_ne_zero i)]at q;exact q
 .have e1:es[i]?=none:=Y1x (by lia);rw[Yp,YQ,e1]at q;rwa[e1]
theorem Zf7 (hf:t.fits es.size=true) (hb:w.params.followText "set-order"=true) :
  Zz85 prog w a es ep t ((pickOrder (w.params.setOrder a ep) es).toList.map (·.2)) (λ_=>0):=by
 intro A E s i Q ⟨o,ho,hx,hda⟩ hi q;unfold setNext;refine Yy0 (Y1k ho hda hf ?_);dsimp only;refine Yy0 ?_;unfold setsByText;refine Yy0 (Y1t (Yf ?_));show wpAny _ _ (if (w.params.followText "set-order")=true then _ else _) _ _ _
 rw[if_pos hb,if_neg (by simp)];refine Yy0 ?_;unfold setWalk;refine Yy0 (Y1k ho hda hf ?_);dsimp only;refine Yy0 ?_;unfold setsByText;refine Yy0 (Y1t (Yf ?_));show wpAny _ _ (if (w.params.followText "set-order")=true then _ else _) _ _ _
 rw[if_pos hb];refine Yy0 (Y1t (Yf ?_));rw[Yp,YQ,Option.map_map]at q;exact Yf q
def IsPl(h:Heap)(b:Addr)(pl:List Nat):Prop:=∃ o n,h.get? b=some o/\o.data=.seq (pl.map λ(i:Nat)=>rawInt (i:Int)).toArray n
theorem IsPl.keep(x:IsPl h b pl)(e:∀ o,h.get? b=some o->h'.get? b=some o):IsPl h' b pl:=let ⟨o,n,p,q⟩:=x;⟨o,n,e _ p,q⟩
theorem Zx10{i j:Nat}{x:Int × Value}{Q:Option Value->Shared->Prop}(hS:SetIs s.heap a es ep t)(hf:t.fits es.size=true)(hi:IsSi s.heap I a (.ref b) i es.size ep)(hb:IsPl s.heap b pl)(hj:pl[i]?=some j)(hx:es[j]?=some x)
  (k:∀ h',IsSi h' I a (.ref b) (i+1) es.size ep->Heap.SameBut I s.heap h'->Q (some x.2) { s with heap:=h' }):wpAny (model prog w) A (pyNext (.ref I)) Q E s:=by
 obtain⟨o,ho,hc,hd⟩:=id hi;obtain⟨oa,hoa,hxa,hda⟩:=id hS;obtain⟨ob,nb,hob,hdb⟩:=hb;unfold pyNext;refine Yy0 (Y1H (Y0g (name:=Str.ofString "__next__") hi.ty si_next (Y0m si_next hi.ty Zr2 ?_ (Zs2 _))));unfold Builtin.«set_iterator.__next__»;refine Yy0 (Y1m (a:=(Value.ref I,[])) rfl ?_);dsimp only;refine Yy0 (Y2P ho hd ?_);dsimp only [rawInt];refine Yy0 (Y1s hoa hda hf ?_);rw[if_neg (by simp)];refine Yy0 (Y0l hob hdb ?_);dsimp only;have e:(pl.map λ(i:Nat)=>rawInt (i:Int)).toArray[(i:Int).toNat]?=some (.int (j:Int) 0):=by rw[Yw,Y3A,Yp,hj];rfl
 rw[e];dsimp only;rw[Yw,Yw];refine Yy0 ?_;unfold setNextDrawn;refine Yy0 (Y1k hoa hda hf ?_);dsimp only;rw[if_neg (by simp),hx];refine Yf ?_;refine Yy0 (Yy17 ho hd (by simp) ?_);refine Yf ⟨x.2,rfl,Yf (k _ ⟨_,Yy00 _ ho (Y1c (Yy06 hd _)),?_,?_⟩ (Y0e ..))⟩
 .rw[Y2h];exact hc
 .rw[Yy06 hd];simp;rfl
theorem Zo12{Q:Option Value->Shared->Prop}(hh:A.handled=none)(hS:SetIs s.heap a es ep t)(hf:t.fits es.size=true)(hi:IsSi s.heap I a (.ref b) pl.length es.size ep)(hb:IsPl s.heap b pl)
  (k:∀ h',Heap.ExtBut I s.heap h'->Q none { s with heap:=h' }):wpAny (model prog w) A (pyNext (.ref I)) Q E s:=by
 obtain⟨o,ho,hc,hd⟩:=id hi;obtain⟨oa,hoa,hxa,hda⟩:=id hS;obtain⟨ob,nb,hob,hdb⟩:=hb;unfold pyNext;refine Yy0 (Y1H (Y0g (name:=Str.ofString "__next__") hi.ty si_next (Y0m si_next hi.ty Zr2 ?_ (Zs2 _))));unfold Builtin.«set_iterator.__next__»;refine Yy0 (Y1m (a:=(Value.ref I,[])) rfl ?_);dsimp only;refine Yy0 (Y2P ho hd ?_);dsimp only [rawInt];refine Yy0 (Y1s hoa hda hf ?_);rw[if_neg (by simp)];refine Yy0 (Y0l hob hdb ?_);dsimp only;have e:(pl.map λ(i:Nat)=>rawInt (i:Int)).toArray[(pl.length:Int).toNat]?=none:=by rw[Yw,Y3A];exact YJ (by simp)
 rw[e];dsimp only;refine Yy0 (Yy17 ho hd (by simp) ?_);have ho2:=Yy00 (Obj.mapFields (λvs=>vs.setIfInBounds 0 (rawInt 0))) ho (Y1c (Yy06 hd _))
 refine Yy0 (Yy17 ho2 (Yy06 hd _) (by simp) ?_);show wpAny _ _ (newExc (.type "StopIteration") [] >>= _) _ _ _
 refine Yy0 ?_;simp only [newExc,newTuple];refine Yy0 (Y0h ?_ (by size_fits));refine Yy0 (m:=firstArgMember _ _) (Y1m (a:=Value.none) (by first | rfl | (simp only [firstArgMember];rfl)) ?_)
 refine Y0h ?_ (by size_fits);simp only [raiseNew];refine Yy0 (wpAny_handled ?_);rw[show A.in1.handled=none from hh];refine Yy0 (Yf (wpAny_throw ?_));refine Yy0 (Y2q (T:="StopIteration") (b:=true) ⟨_,Yj _ rfl,rfl⟩ isSubtype_stop ?_);exact Yf (k _ (((((Y0e ..).trans (Y0e ..)).extBut).push _).push _))
theorem ZV8(hh:A.handled=none)(hp:pl.Perm (List.range es.size))(hf:t.fits es.size=true)(hne:a≠I)(hnb:b≠I) :
  Walks prog w A I [I,a,b] [I] pl.length (λi v=>(pl.filterMap λj=>(es[j]?).map (·.2))[i]?=some v) (λi h=>i<=pl.length/\IsSi h I a (.ref b) i es.size ep/\SetIs h a es ep t/\IsPl h b pl) where
 sub:=λc hc=>Ye.mpr (.inl (Yy1.mp hc))
 frame:=λ_ _ _ x hk=>⟨x.1,x.2.1.keep λo e=>hk I (by simp) o e,x.2.2.1.keep λo e=>hk a (by simp) o e,x.2.2.2.keep λo e=>hk b (by simp) o e⟩
 item:=λi s Q E hi ⟨_,x1,x2,x3⟩ hQ=>by
  have hj:pl[i]?=some (pl[i]'hi):=Yy2 hi;have hlt:=YG.mp (hp.mem_iff.mp (Yy8 hj))
  have hx:es[pl[i]'hi]?=some (es[pl[i]'hi]'hlt):=YE hlt;have fm:∀(l:List Nat),(∀ j∈l,j<es.size)->l.filterMap (λj=>(es[j]?).map (·.2))=l.map λj=>(es.getD j (0,.none)).2:=λl hl=>by
   induction l with
   | nil=>rfl
   | cons y l ih =>
    have hy:=hl y Yk;rw[Y1h,YU,ih λj h=>hl j (Yi _ h),YE hy,Ys,YE hy];rfl
  have hv:(pl.filterMap λj=>(es[j]?).map (·.2))[i]?=some (es[pl[i]'hi]'hlt).2:=by rw[fm pl λj hj=>YG.mp (hp.mem_iff.mp hj),Yp,hj,Yy31,Ys,hx];rfl
  exact Zx10 x2 hf x1 x3 hj hx λh' y hs=>hQ _ h' s.toks hv ⟨hi,y,x2.keep λo e=>(hs.2 a hne).trans e,x3.keep λo e=>(hs.2 b hnb).trans e⟩ λc o hc eo=>hs.extBut c o (λe=>hc (by simp[e])) eo
 done:=λs Q E ⟨_,x1,x2,x3⟩ hQ=>Zo12 hh x2 hf x1 x3 λh' he=>hQ h' s.toks λc o hc eo=>he c o (λe=>hc (by simp[e])) eo
 self:=λ_ _ _ _ x hQ=>ZV7 x.2.1 hQ
end
section
variable{prog:Program}{w:World}{A B:Around}{E:Ae}{s:Shared}
theorem SetIs.ty (x:SetIs s.heap a es ep t):s.TypeIs (.ref a) "set":=let ⟨o,p,q,_⟩:=x;⟨o,p,q.1⟩
theorem ZU8 {Q:Ae} (hh:A.handled=none) (hS:SetIs s.heap a es ep t) (hf:t.fits es.size=true) (hr:Ris t) (hl:t.led=!w.params.followText "set-order") (hz:es.size<=sizeLine)
  (k:∀(I:Addr) (h':Heap) d (ord:Ag) (fp:List Addr) (St:Nat->Heap->Prop),ord.Perm (es.toList.map (·.2))->Walks prog w A I fp [I] ord.length (λi v=>ord[i]?=some v) St->St 0 h'->(∀ b∈fp,b<h'.objs.size/\(b=a\/s.heap.objs.size<=b))->I∈fp->s.heap.objs.size<=I->(∀ c o,s.heap.get? c=some o->h'.get? c=some o)->Q (.ref I) { s with heap:=h',drawn:=d }) :
  wpAny (model prog w) B (pyIter (.ref a)) Q E s:=by
 obtain⟨o,ho,hx,hd⟩:=id hS;have lta:a<s.heap.objs.size:=Yh ho
 refine wpAny_pyIter_slot hS.ty ZT7 (Y0m ZT7 hS.ty ZN8 ?_ (ZO8 _));unfold Builtin.«frozenset.__iter__»;refine Yy0 (Y1m (a:=a) rfl ?_);refine Yy0 ?_;unfold Builtin.Frozenset.sizeOf;refine Yy0 (Y1s ho hd hf (Yf ?_));refine Yy0 ?_;unfold setDrawn;refine Yy0 (Y1k ho hd hf ?_);dsimp only;refine Yy0 ?_;unfold setsByText;refine Yy0 (Y1t (Yf (Yf ?_)));have num:∀(ord:Ag) (sl:Nat->Nat),sl 0=0->Zz85 prog w a es ep t ord sl->ord.Perm (es.toList.map (·.2))->wpAny (model prog w) B.in1 (pure (rawInt 0) >>= λfirst=>setEpoch a >>= λe=>newFields "set_iterator" [first,rawInt 0,.ref a,rawInt (es.size:Int),rawInt (e:Int)] >>= λit=>ret it)
   (λfin s'=>∃ v,fin=Fin.done (Flow.ret v)/\∃ T' r,s'.TypeIs v T'/\typeLookup (Value.type T') (Str.ofString "__next__")=pure (some r)/\Q v s') E s:=λord sl h0 hN hp=>by
  refine Yy0 (Yf (Yy0 (wpAny_setEpoch_of ho hd hf (Yy0 ?_))));unfold newFields;refine Y0h ?_ (by size_fits);have hI:IsSi (s.heap.push { cls:=.type "set_iterator",data:=.fields [rawInt 0,rawInt 0,.ref a,rawInt (es.size:Int),rawInt (ep:Int)].toArray }) s.heap.objs.size a (rawInt (sl 0:Nat)) 0 es.size ep:=⟨_,Yj _ rfl,rfl,by rw [h0];rfl⟩
  refine Yf ⟨_,rfl,"set_iterator",_,IsSi.ty (s:={ s with heap:=_ }) hI,si_next.lookup,?_⟩;have ne:a≠s.heap.objs.size:=Yo lta
  refine k _ _ s.drawn ord _ _ hp (ZQ8 hh hN hf ne) ⟨Yl _,hI,hS.keep λo e=>Yy4 _ e⟩ (λb hb=>?_) (by simp) (Yy6 _) λc o e=>Yy4 _ e;rw[Y0n];rcases Ye.mp hb with e | e
  .rw[e];exact⟨Y0i _,.inr (Yy6 _)⟩
  .rw[Yy1.mp e];exact⟨Y0j lta,.inl rfl⟩
 by_cases hb:w.params.followText "set-order"=true
 .rw [if_neg (by show ¬ (!w.params.followText "set-order" && _)=true;rw [hb];simp)];refine num _ (λ_=>0) rfl (Zf7 hf hb) ?_
  have:=Zz44 (f:=w.params.setOrder a ep) es.size 0 es.toList #[] (by rw[YA])
  exact this.map _
 .have hb':w.params.followText "set-order"=false:=by simpa using hb
  rw[hb']at hl;by_cases c:(!t.plain && decide (es.size > 1))=true
  .rw [if_pos (by show(!w.params.followText "set-order" && (!t.plain && decide (es.size > 1)))=true;rw [hb',c];rfl)];refine Yy0 (Zv6 es.size (List.range es.size) s _ (by rw[YK]) λpl d hp=>?_);have hpl:pl.length=es.size:=by rw[hp.length_eq,YK]
   refine Yy0 (wpAny_newTuple ?_ (by rwa[Yc,hpl]));have hoS:∀(h:Heap) o,h.get? a=some o->(h.push { cls:=.type "tuple",data:=.seq (List.map (λi=>rawInt ((i:Nat):Int)) pl).toArray }).get? a=some o:=λh o e=>Yy4 _ e
   refine Yy0 (wpAny_setEpoch_of (hoS s.heap o ho) hd hf (Yy0 ?_));unfold newFields;refine Y0h ?_ (by size_fits);have ne:a≠s.heap.objs.size:=Yo lta
   generalize hh1:s.heap.push { cls:=.type "tuple",data:=.seq (List.map (λi=>rawInt ((i:Nat):Int)) pl).toArray }=h1;have s1:h1.objs.size=s.heap.objs.size+1:=by rw[<- hh1];exact Y0n ..
   have old1:∀ c o,s.heap.get? c=some o->h1.get? c=some o:=λc o e=>by rw[<- hh1];exact Yy4 _ e
   have hP1:IsPl h1 s.heap.objs.size pl:=by rw[<- hh1];exact⟨_,0,Yj _ rfl,rfl⟩
   have hI:IsSi (h1.push { cls:=.type "set_iterator",data:=.fields [Value.ref s.heap.objs.size,rawInt 0,.ref a,rawInt (es.size:Int),rawInt (ep:Int)].toArray }) h1.objs.size a (.ref s.heap.objs.size) 0 es.size ep:=⟨_,Yj _ rfl,rfl,rfl⟩;refine Yf ⟨_,rfl,"set_iterator",_,IsSi.ty (s:={ s with heap:=_,drawn:=d }) hI,si_next.lookup,?_⟩;have hord:(pl.filterMap λj=>(es[j]?).map (·.2)).Perm (es.toList.map (·.2)):=by refine(hp.filterMap _).trans ?_;rw[<- filterMap_getElem?_range es,List.map_filterMap]
   have hol:(pl.filterMap λj=>(es[j]?).map (·.2)).length=pl.length:=by rw[hord.length_eq,Yc,YA,hpl]
   have W:=ZV8 (prog:=prog) (w:=w) (A:=A) (I:=h1.objs.size) (a:=a) (b:=s.heap.objs.size) (es:=es) (ep:=ep) (t:=t) hh hp hf (by rw[s1];exact Yo (Y0j lta)) (by rw[s1];exact Yo (Y0i _));rw[<- hol]at W;refine k _ _ d _ _ _ hord W ⟨Yl _,hI,hS.keep λo e=>Yy4 _ (old1 _ o e),hP1.keep λo e=>Yy4 _ e⟩ (λb hb=>?_) (by simp) (by rw[s1];exact Y0P _) λc o e=>Yy4 _ (old1 c o e);rw[Y0n,s1];rcases Ye.mp hb with e | e
   .rw[e,s1];exact⟨Y0i _,.inr (Y0P _)⟩
   .rcases Ye.mp e with e | e
    .rw[e];exact⟨Y0j (Y0j lta),.inl rfl⟩
    .rw[Yy1.mp e];exact⟨Y0j (Y0i _),.inr (Yy6 _)⟩
  .have c':(!t.plain && decide (es.size > 1))=false:=by simpa using c
   rw [if_neg (by show ¬ (!w.params.followText "set-order" && (!t.plain && decide (es.size > 1)))=true;rw [c'];simp)];exact num _ _ rfl (Zh9 hf hr hb' hl c') .rfl
end
theorem Zk12:typeLookup (.type "set") "__len__"=pure (some (.builtin "set.__len__")):=by rw [Y2B,Y1Q];kernel_rfl
section
variable{prog:Program}{w:World}{A:Around}{E:Ae}{s:Shared}
theorem Zr10 {r:Addr} {Q:Bool->Shared->Prop} (hT:s.TypeIs (.ref r) "set") (h:Q false s):wpAny (model prog w) A (Builtin.List.listLengthHint (.ref r)) Q E s:=by
 unfold Builtin.List.listLengthHint;refine Yy0 (wpAny_specialOf hT Zk12 ?_);generalize hid:("set.__len__":String)=id0
 wp_delta
 rw [show splitId id0=some ("set","__len__") from by subst hid;decide +kernel];subst hid;refine Yy0 (Y2q (T:="set") (b:=true) hT sub_set_self ?_);show wpAny _ A (typeOf (Value.ref r) >>= _) _ _ _
 exact Yy0 (Y3o (T:="set") hT (Yf h))
theorem Zz45 {Q:List Value->Shared->Prop} (hh:A.handled=none) (hS:SetIs s.heap a es ep t) (hf:t.fits es.size=true) (hr:Ris t) (hl:t.led=!w.params.followText "set-order") (hz:es.size<=sizeLine)
  (k:∀(out:Ag) h' tk d,out.Perm (es.toList.map (·.2))->s.heap.objs.size<=h'.objs.size->(∀ c o,s.heap.get? c=some o->h'.get? c=some o)->Q out { s with heap:=h',toks:=tk,drawn:=d }):wpAny (model prog w) A (collect (.ref a)) Q E s:=by
 have hL1:(s.heap.push (seqObj "list" #[] 0)).get? s.heap.objs.size=some (seqObj "list" #[] 0):=Yj _ rfl;have hS1:SetIs (s.heap.push (seqObj "list" #[] 0)) a es ep t:=hS.keep λo e=>Yy4 _ e
 have lta:a<s.heap.objs.size:=let ⟨_,e,_⟩:=hS;Yh e
 unfold collect;refine Yy0 (Y2O (Yy01 Y3k ?_));show wpAny _ _ (newList [] >>= λv=>again (.builtin "list.__iadd__" ⟨[v,.ref a],[]⟩)) _ _ s
 refine Yy0 (Yy23 (Yf ⟨Y1G _ (by decide +kernel),Yy01 entry_list_iadd' ?_⟩));show wpAny _ _ (Builtin.List.listExtendWith (.ref s.heap.objs.size) (.ref a) (.ref s.heap.objs.size)) _ _ { s with heap:=s.heap.push (seqObj "list" #[] 0) }
 unfold Builtin.List.listExtendWith;refine Yy0 (Y3o (T:="set") (SetIs.ty (s:={ s with heap:=s.heap.push (seqObj "list" #[] 0) }) hS1) ?_);have e1:Builtin.List.listSameRef (.ref s.heap.objs.size) (.ref a)=false:=by show(s.heap.objs.size == a)=false;exact Y2Z (Y0u lta)
 rw[if_neg (by rw[e1];decide)];refine Yy0 (ZU8 (A:=A.in1) (by simp[hh]) hS1 hf hr hl hz λI h' d ord fp St hord W st0 hfp hI hge kp=>?_);have hT':Shared.TypeIs { s with heap:=h',drawn:=d } (.ref a) "set":=SetIs.ty (s:={ s with heap:=h',drawn:=d }) (hS1.keep λo e=>kp a o e)
 refine Yy0 (Y0D (Zr10 hT' ?_));rw[if_pos (by decide +kernel)];have hL2:=kp _ _ hL1
 refine Yy0 (Y2p (Yy0 ?_));unfold Builtin.List.listTouch;refine Yy0 (Y1X (xs:=#[]) (n:=0) hL2 rfl ?_ (Yl _) (by show 1<=sizeLine+1;lia));have hL3:=Yy00 (Obj.mapSeq (·.push Value.none)) hL2 rfl
 refine Y1X (xs:=#[].push Value.none) (n:=1) hL3 rfl ?_ (by show 1<=sizeLine;decide) (by show 0<=sizeLine+1;lia);have hL4:=Yy00 (Obj.mapSeq Array.pop) hL3 rfl
 have old:∀ c o,c≠s.heap.objs.size->h'.get? c=some o->((h'.update s.heap.objs.size (Obj.mapSeq (·.push Value.none))).update s.heap.objs.size (Obj.mapSeq Array.pop)).get? c=some o:=λc o hc e=>by rwa[YN _ _ (YR hc),YN _ _ (YR hc)]
 generalize (h'.update s.heap.objs.size (Obj.mapSeq (·.push Value.none))).update s.heap.objs.size (Obj.mapSeq Array.pop)=h4 at *;have hSf:s.heap.objs.size∉fp:=λq=>by
  rcases(hfp _ q).2 with e | e
  .exact Y0u lta e
  .rw [show({ s with heap:=s.heap.push (seqObj "list" #[] 0) }:Shared).heap.objs.size=s.heap.objs.size+1 from Y0n ..] at e;exact Nat.not_succ_le_self _ e
 have lenO:ord.length=es.size:=by rw[hord.length_eq,Yc,YA]
 refine Yf ⟨Yy11 PySem.F.plain_extend_loop _,codeAny_extend_loopS W.toS (by rwa[lenO]) s.heap.objs.size hSf _ ord.length 0 _ #[] _ rfl (Yl _) (W.frame 0 _ _ st0 λb hb o e=>old b o (λq=>hSf (q ▸ hb)) e) hL4 (ItemsOf.nil _) λs2 acc c m hL5 hacc=>?_⟩;have eo:acc.toList=ord:=by
  refine Y0F λi=>?_;rw[YQ];by_cases hi:i<ord.length
  .have q:acc[i]?=some (acc[i]'(by rwa[hacc.1])):=YE _;rw[q,hacc.2 i _ q]
  .rw[YJ (by grind),Y1x (by rw[hacc.1];omega)]
 show wpAny _ A (load s.heap.objs.size >>= _) Q E s2;refine Yy0 (Y3p hL5 ?_);refine Yf ?_;rw[eo,Moved.eq_with m];refine k ord s2.heap s2.toks d hord (Y1J (Yh hL5)) λc o e=>?_;have lt:=Yh e
 refine m.heap c o (λq=>?_) (old c o (Yo lt) (kp c o (Yy4 _ e)));rcases Ye.mp q with e' | e'
 .exact Yo lt e'
 .rw[Yy1.mp e']at lt
  have:=Ym lt (YD (Y0P _) (Y0n .. ▸ hge))
  exact Y0I _ this
end
theorem Zm2:∀ {l:Ac},m.Nodup->l.length=m.length->(∀ x∈m,x∈l)->l.Perm m:=by
 induction m with
 | nil=>intro l _ h _;rw[YV.mp h]
 | cons x m ih =>
  intro l hn hl hs;have hx:=hs x Yk
  have hn':=Y0p.mp hn;refine(List.perm_cons_erase hx).trans ((ih hn'.2 (by rw[Y3i hx,hl];rfl) λy hy=>?_).cons x);have ne:y≠x:=λe=>hn'.1 (by rwa[<- e])
  exact(List.mem_erase_of_ne ne).mpr (hs y (Yi _ hy))
theorem Zr7(p:us.Perm vs):∀ {ns:Ac},IntsAre vs ns->∃ ms,IntsAre us ms/\ms.Perm ns:=by
 induction p with
 | nil=>intro ns h;exact⟨ns,h,.rfl⟩
 | cons x _ ih =>
  intro ns h;cases h with
  | cons n t h =>
   obtain⟨ms,h1,h2⟩:=ih h;exact⟨n :: ms,.cons n t h1,h2.cons n⟩
 | swap x y l =>
  intro ns h;cases h with
  | cons n t h =>
   cases h with
   | cons m u h=>exact⟨m :: n :: _,.cons m u (.cons n t h),.swap n m _⟩
 | trans _ _ ih1 ih2 =>
  intro ns h;obtain⟨ms,h1,h2⟩:=ih2 h;obtain⟨ls,h3,h4⟩:=ih1 h1;exact⟨ls,h3,h4.trans h2⟩
theorem ZA9(h:IntsAre vs ns):vs.length=ns.length:=by
 induction h with
 | nil=>rfl
 | cons n t _ ih=>rw[Yz,Yz,ih]
theorem Zs1(val:Nat->Int):∀ i,(firstMet val i).Nodup
 | 0=>.nil
 | i+1=>by
  rw[firstMet_succ];unfold step_dedup;split
  .exact Zs1 val i
  .rename_i h;refine Y0d.mpr ⟨Zs1 val i,by simp,λa ha b hb e=>?_⟩;rw[Yy1.mp hb]at e;exact h (Y2V.mpr ⟨a,ha,by rw[e];simp⟩)
section
variable{prog:Program}{w:World}{A:Around}{E:Ae}{s:Shared}
theorem Zz82:∀ {l:List (Int × Value)},ElemsOf (intKind prog w) l->∃ ms,IntsAre (l.map (·.2)) ms/\∀ z,z∈ms↔∃ y∈l,(intKind prog w).is z y.2=true
 | [],_=>⟨[],.nil,λz=>⟨λh=>(by cases h),λ⟨y,h,_⟩=>(by cases h)⟩⟩
 | y :: l,h=>by
  obtain⟨ms,h1,h2⟩:=Zz82 h.tail;obtain⟨⟨z,hz,_⟩,_⟩:=h.head;obtain⟨hy,v⟩:=y;obtain⟨u,rfl⟩:=Value.isInt_shape (show Value.isInt z v=true from hz);refine⟨z :: ms,.cons z u h1,λx=>?_⟩;rw[Ye,h2];constructor
  .rintro(e | ⟨y,hy,q⟩)
   .exact⟨_,Yk,e ▸ hz⟩
   .exact⟨y,Yi _ hy,q⟩
  .rintro⟨y,hy,q⟩;rcases Ye.mp hy with e | e
   .rw[e]at q;exact .inl ((intKind prog w).inj _ _ _ q hz)
   .exact .inr ⟨y,e,q⟩
theorem Zq5 {led:Bool} {S:Int->Bool} {Q:Ae} (hh:A.handled=none) (hS:SetR prog w s.heap a (!w.params.followText "set-order") S n) (h64:n<64)
  (k:∀(ms:Ac) (out:Ag) r h' tk d c,IntsAre out ms->ms.Pairwise (·<=·)->ms.length=n->(∀ z,z∈ms↔S z=true)->s.heap.objs.size<=r->h'.get? r=some (seqObj "list" out.toArray c)->(∀ c o,s.heap.get? c=some o->h'.get? c=some o)->Q (.ref r) { s with heap:=h',toks:=tk,drawn:=d }) :
  wpAny (model prog w) A (call (.builtin "sorted") [.ref a]) Q E s:=by
 obtain⟨o,es,ep,t,ho,hx,hd,he,hm,hb,hf,hn,hr,hl⟩:=hS;obtain⟨ns,hI,hmem⟩:=Zz82 he;have hsl:sizeLine=16777216:=Y0W
 refine Calls.call_function_entry kind_sorted plain_sorted entry_sorted (args_sorted1 _) ?_;unfold Builtin.«sorted»;refine Yy0 (m:=checkCount "sorted" 1 1 _) (Yf ?_);refine Yy0 (Zz45 (A:=A.in1) (by simp[hh]) ⟨o,ho,hx,hd⟩ hf hr hl (by lia) λout h1 tk d hp hge kp=>?_);obtain⟨ls,hI2,hp2⟩:=Zr7 hp hI;have lo:=ZA9 hI2
 have ll:ls.length=n:=by rw[<- lo,hp.length_eq,Yc,YA,hn]
 refine Yy0 (Yy23 ?_);have hL:(h1.push (seqObj "list" out.toArray 0)).get? h1.objs.size=some (seqObj "list" out.toArray 0):=Yj _ rfl
 refine Yy0 (Y0D (Y0m slot_list_sort ⟨_,hL,rfl⟩ entry_list_sort (list_sort_tree hL hI2 (by lia) λres ms b1 b2 b3=>⟨_,rfl,?_⟩) (args_list_sort _)));obtain⟨c,hc⟩:=sortedHeap_at (out:=res) hL;refine Yf ⟨_,rfl,k ms res.toList h1.objs.size _ tk d c b1 b3 (by rw[b2.length_eq,ll]) (λz=>by rw[b2.mem_iff,hp2.mem_iff,hmem,hm]) hge (by rwa[Array.toArray_toList]) λb ob e=>?_⟩;have lt:=Yh (kp b ob e)
 rw[sortedHeap_old (Yo lt) (by rw[size_push'];exact Y0j lt)];exact Yy4 _ (kp b ob e)
end
section
variable{X:Cx}{p p2 pos pos2:Pos}{e:Expr}{t:TA}
theorem Inv.drew(I:Inv X pins σ H s)(d:Drawn):Inv X pins σ H { s with drawn:=d } :=
 I.step (g':=s.gens) (d':=d) (t':=s.toks) (h':=s.heap) (ch:=[]) (λb hb=>(by cases hb)) (λb o _ _ _ q _=>q) (λb o _ _ _ q _=>⟨o.slots,q⟩) (λb o _ _ n=>n) (λb o _ q=>⟨o,q⟩) (λb xs q=>q) (λb o u q=>q) (λb ps q=>⟨#[],by rw[q];simp⟩) (λm hm=>hm) I.hok I.bare
def Zn5(K:Ad)(t:TA):TE:=λσ H Q=>t σ H λvs H1=>∃(a:Addr) (ns:Ac),vs=[.ref a]/\SqL K H1 a (ns.map V.int)/\ns.length<64/\∀ ms:Ac,ms.Pairwise (· < ·)->(∀ z,z∈ms↔z∈ns)->∀ l,H1 l=none->Q (.ref l) (upd H1 l (.lst (ms.map V.int)))
theorem Zu3 (K:Ad) (hc:X.calm=true) (g1:Gl X "sorted") (m1:X.mg "sorted"=none) (g2:Gl X "set") (m2:X.mg "set"=none) (ha:PA X [e] t) (hk:X.K=K:=by rfl)
  (he:starEach [e] X.env=[(false,eval e X.env)]:=by rfl)
  (he2:starEach [.Call (.Name "set" p2) [e] [] pos2] X.env=[(false,eval (.Call (.Name "set" p2) [e] [] pos2) X.env)]:=by rfl) :
  PE X (.Call (.Name "sorted" p) [.Call (.Name "set" p2) [e] [] pos2] [] pos) (Zn5 K t):=by
 subst hk;intro pins s σ H Q I h;refine Y0E (Zz62 I g1 m1 Boot.«sorted» ?_);refine Y2I ?_ (by rw[he2];rfl) rfl;rw[he2];show wpAny _ _ (spliced ((false,eval (.Call (.Name "set" p2) [e] [] pos2) X.env) :: backTo pos [])) _ _ s
 refine Calls.spliced_cons ?_;refine Y0E (Zz62 I g2 m2 Boot.«set» ?_);refine Y0c (thn (ha pos2 pins s σ H _ I h) λus s1 ⟨vs,H1,I1,r1,q1⟩=>?_) (by rw[he];rfl) rfl;obtain⟨a,ns,rfl,hq,hn,q⟩:=q1;obtain⟨u,rfl,ru⟩:=Zk3 r1;obtain rfl:u=Value.ref a:=ru;obtain⟨its,rv,pl,hz⟩:=I1.list hq;have hi:=ZA rv
 have el:its.toArray.size=ns.length:=by rw[Yy9,<- rv.length,Yc]
 have sb:scanBound=4096:=rfl;refine Zv10 (I.ok.hd hc) pl.isList (ns:=ns) (by simpa using hi) (by lia) λh2 tk hS kp=>?_;refine Calls.spliced_nil ?_;have fl:=firstMet_length_le (λi=>ns.getD i 0) its.toArray.size
 refine Zq5 (led:=true) (s:={ s1 with heap:=h2,toks:=tk }) (I.ok.hd hc) hS (by lia) λms out r h3 tk3 d c hI hs hl hmem hge hr kp3=>?_;have em:∀ z,z∈ms↔z∈ns:=λz=>by
  rw[hmem,firstMet_any,el];have e1:(List.range ns.length).map (λi=>ns.getD i 0)=ns:=by
   refine Y0F λi=>?_;rw[Yp];by_cases c:i<ns.length
   .rw[Y0t c,Yy2 c,Yy31,Yy7,Yy2 c];rfl
   .rw[YJ (by rw[YK];lia),YJ (by omega)];rfl
  rw[e1];simp
 have hnd:ms.Nodup:=(Zm2 (Zs1 _ _) hl λx hx=>(hmem x).mpr (Y2V.mpr ⟨x,hx,by simp⟩)).nodup_iff.mpr (Zs1 _ _);have hlt:s1.heap.objs.size<=h2.objs.size:=let ⟨_,_,_,_,e,_⟩:=hS;Y1J (Yh e)
 have hge2:s1.heap.objs.size<=r:=YD hlt hge;have hml:ms.length<=ns.length:=by rwa[hl,<- el]
 have I2:=(I1.laid (o:=.lst (ms.map V.int)) (h':=h3) (t':=tk3) (λb o e=>kp3 b o (kp b o e)) hge2 ⟨by rw[Yc];have:sizeLine=16777216:=Y0W;lia,out,c,Za1 hI,hr⟩).drew d;exact⟨.ref r,_,I2,rfl,q ms (My.srt_strict hs hnd) em r (I1.hok.fresh hge2)⟩
end
end L2
namespace My
open PySem L2
def FD(A B:Ac)(t:Int):Prop:=t∈A/\t∉B/\∀ s,s<t->(s∈A↔s∈B)
theorem Zd4:∀ {A B:Ac},A.Pairwise (· < ·)->B.Pairwise (· < ·)->A.length=B.length->(HT.lexLt A B=true↔∃ t,FD A B t)
 | [],[],_,_,_=>⟨λh=>(by cases h),λ⟨t,h,_⟩=>(by cases h)⟩
 | x :: A,y :: B,hA,hB,hl=>by
  obtain⟨a1,a2⟩:=Yy03.mp hA;obtain⟨b1,b2⟩:=Yy03.mp hB;have hl':A.length=B.length:=Yy19 hl
  show(if x=y then HT.lexLt A B else decide (x<y))=true↔_;by_cases c:x=y
  .subst c;rw[if_pos rfl,Zd4 a2 b2 hl'];constructor
   .rintro⟨t,h1,h2,h3⟩;have tx:=a1 t h1
    refine⟨t,Yi _ h1,λq=>?_,λs hs=>?_⟩
    .rcases Ye.mp q with e | e
     .lia
     .exact h2 e
    .rw[Ye,Ye,h3 s hs]
   .rintro⟨t,h1,h2,h3⟩;have tx:t≠x:=λe=>h2 (e ▸ Yk)
    have h1':=(Ye.mp h1).resolve_left tx;refine⟨t,h1',λq=>h2 (Yi _ q),λs hs=>?_⟩
    have:=h3 s hs
    rw[Ye,Ye]at this;by_cases e:s=x
    .rw[e];exact⟨λq=>absurd (a1 x q) (Int.lt_irrefl x),λq=>absurd (b1 x q) (Int.lt_irrefl x)⟩
    .exact⟨λq=>(this.mp (.inr q)).resolve_left e,λq=>(this.mpr (.inr q)).resolve_left e⟩
  .rw[if_neg c,YH];constructor
   .intro h;refine⟨x,Yk,λq=>?_,λs hs=>⟨λq=>?_,λq=>?_⟩⟩
    .rcases Ye.mp q with e | e
     .exact c e
     .have:=b1 x e;lia
    .rcases Ye.mp q with e | e
     .lia
     .have:=a1 s e;lia
    .rcases Ye.mp q with e | e
     .lia
     .have:=b1 s e;lia
   .rintro⟨t,h1,h2,h3⟩;have tx:x<=t:=by
     rcases Ye.mp h1 with e | e
     .lia
     .have:=a1 t e;lia
    refine Yr λhc=>?_;have hyx:y<x:=by lia
    have:=(h3 y (by grind)).mpr Yk
    rcases Ye.mp this with e | e
    .lia
    .have:=a1 y e;grind
theorem Zz113{s rest:TS}{D:Ends}{σ:L2.St}{H:Hp}(P:L2.St->Hp->Prop)(h1:∀ σ' H',P σ' H'->rest D σ' H')(h2:∀ K:L2.St->Hp->Prop,(∀ σ' H',P σ' H'->K σ' H')->s { D with nx:=K } σ H):tSeq s rest D σ H:=h2 _ h1
theorem tryX{tb:(L2.St->XK)->TS}{th:Addr->Addr->TS}{D:Ends}{σ:L2.St}{H:Hp}(P:L2.St->Addr->Hp->Prop)
  (h1:∀ σ' C H',P σ' C H'->PySem.W.exmOne K (.ref C) (.ref W)=some true/\∀ e:Addr,H' e=none->th e C (D.less i) (σ'.set i (some (.ref e))) H')
  (h2:∀ R:L2.St->XK,(∀ σ' C H',P σ' C H'->R σ' (.ref C) none H')->tb R D σ H):tTry K W i tb th D σ H:=h2 _ λ_ C _ p=>⟨C,rfl,h1 _ _ _ p⟩
theorem Zz10(g:Zy n ps):∃ L:Ab,(∀ l,l∈L↔Zf n ps l)/\L.Pairwise lexS:=⟨frs n.toNat ps (n - 1).toNat,λ_=>Zn6 g,(ZO6 _ _).filter _⟩
end My
namespace L2
open PySem PySem.Spec PyProof.Rows
section
variable{prog:Program}{w:World}{A:Around}{E:Ae}{s:Shared}
theorem Zy3{u:Value}{Q:Ae}(hj:s.heap.IsTupleIter j t i)(ht:s.heap.IsTuple t us)(hu:us[i]?=some u)
  (q:∀ h',h'.IsTupleIter j t (i+1)->Heap.SameBut j s.heap h'->Q u { s with heap:=h' }):wpAny (model prog w) A (Builtin.SmallTypes.nextOf (.ref j)) Q E s:=by
 obtain⟨o1,e1,c1,d1⟩:=id hj;obtain⟨o2,e2,_,n2,d2⟩:=ht;unfold Builtin.SmallTypes.nextOf;refine Yy0 (Y0g (name:=Str.ofString "__next__") hj.typeIs Y1j (Y0m Y1j hj.typeIs Y3C ?_ (Y3y _)));show wpAny _ _ (field (.ref j) 0 >>= _) _ _ s
 refine Yy0 (Yy10 e1 d1 (x:=.ref t) rfl ?_);rw[if_neg (show ¬ (Value.ref t == Value.none)=true from Yq)];show wpAny _ _ (field (.ref j) 1 >>= _) _ _ s
 refine Yy0 (Yy10 e1 d1 (x:=.int i 0) rfl ?_);show wpAny _ _ (seqItems? (.ref t) >>= _) _ _ s
 refine Yy0 (Y0l e2 d2 ?_);simp only [hu,Yw];refine Yy0 (Yy17 e1 d1 (by simp) (Yf ⟨u,rfl,Yf (q _ ?_ (Y0e ..))⟩));refine⟨_,Yy00 _ e1 (Y1c (Yy06 d1 _)),(Y2h ..).trans c1,?_⟩;rw[Yy06 d1];simp[rawInt]
theorem Zz58{Q:Ae}(hh:A.handled=none)(hj:s.heap.IsTupleIter j t i)(ht:s.heap.IsTuple t us)(hu:us[i]?=none)
  (q:∀ h' e,Heap.ExtBut j s.heap h'->(∃ o,h'.get? e=some o/\o.cls=.type "StopIteration")->E (.ref e) { s with heap:=h' }):wpAny (model prog w) A (Builtin.SmallTypes.nextOf (.ref j)) Q E s:=by
 obtain⟨o1,e1,c1,d1⟩:=id hj;obtain⟨o2,e2,_,n2,d2⟩:=ht;unfold Builtin.SmallTypes.nextOf;refine Yy0 (Y0g (name:=Str.ofString "__next__") hj.typeIs Y1j (Y0m Y1j hj.typeIs Y3C ?_ (Y3y _)));show wpAny _ _ (field (.ref j) 0 >>= _) _ _ s
 refine Yy0 (Yy10 e1 d1 (x:=.ref t) rfl ?_);rw[if_neg (show ¬ (Value.ref t == Value.none)=true from Yq)];show wpAny _ _ (field (.ref j) 1 >>= _) _ _ s
 refine Yy0 (Yy10 e1 d1 (x:=.int i 0) rfl ?_);show wpAny _ _ (seqItems? (.ref t) >>= _) _ _ s
 refine Yy0 (Y0l e2 d2 ?_);simp only [hu,Yw];refine Yy0 (Y2p (Yy0 (Yy17 e1 d1 (by simp) (Yy0 (m:=newExc (.type "StopIteration") []) ?_))));simp only [newTuple,newExc];refine Yy0 (Y0h (Yy0 (m:=firstArgMember _ _) (Y1m (a:=Value.none) (by first | rfl | (simp only [firstArgMember];rfl)) (Y0h ?_ (by size_fits)))) (by size_fits))
 unfold raiseNew;refine Yy0 (wpAny_handled ?_)
 first
  | rw[hh]
  | rw[show A.in1.handled=none from hh]
 refine Yy0 (Yf (wpAny_throw (q _ _ (((Y0e ..).extBut.push _).push _) ⟨_,Yj _ rfl,rfl⟩)))
end
end L2
namespace My
open PySem L2
def ev(b:Int):Ac->Int
 | []=>0
 | d :: l=>d+b * ev b l
theorem Zz37(l:Ac)(x:Int):(l++[x]).sum=l.sum+x:=by
 induction l with
 | nil=>show x+0=0+x;lia
 | cons y l ih=>show y+(l++[x]).sum=y+l.sum+x;lia
def cM(M:Ac)(p:Nat)(x:Int):Int:=((M.take p).count x:Nat)
theorem ZZ2:∀ es:List (Nat × Nat),InN n es->∀ i,i<n->0<=mk (pms n es) i/\mk (pms n es) i<=(i:Int)/\mk (pms n es) (mk (pms n es) i).toNat=mk (pms n es) i:=by
 refine ZR (λ_ i hi=>?_) λes e ih h=>?_
 .have e:mk (pms n []) i=(i:Int):=Yz1 hi;rw[e,Yw];exact⟨by lia,Y0G _,e⟩
 .obtain⟨h1,h2,h3⟩:=h.snoc;have ih:=ih h1
  intro i hi;rw[ZG5];have hl:=Zo n es
  generalize pms n es=M at *;obtain⟨i1,i2,i3⟩:=ih i hi;obtain⟨a1,a2,a3⟩:=ih e.1 h2;obtain⟨b1,b2,b3⟩:=ih e.2 h3;unfold pm;by_cases c:min (mk M e.1) (mk M e.2)<max (mk M e.1) (mk M e.2)
  .rw[if_pos c];obtain⟨lo,hlo⟩:∃ lo,lo=min (mk M e.1) (mk M e.2):=⟨_,rfl⟩;obtain⟨hi',hhi⟩:∃ hi',hi'=max (mk M e.1) (mk M e.2):=⟨_,rfl⟩;rw[<- hlo,<- hhi]at c ⊢;have lown:mk M lo.toNat=lo:=by
    rcases Int.le_total (mk M e.1) (mk M e.2) with q | q
    .rw[hlo,Yy36 q];exact a3
    .rw[hlo,Y2X q];exact b3
   have lb:0<=lo/\lo<(n:Int):=by
    rcases Int.le_total (mk M e.1) (mk M e.2) with q | q
    .rw[hlo,Yy36 q];grind
    .rw[hlo,Y2X q];grind
   rw[ZB3 _ _ (by lia)];by_cases d:mk M i=hi'
   .rw[if_pos d,ZB3 _ _ (by grind),lown,if_neg (by lia)];grind
   .rw[if_neg d,ZB3 _ _ (by grind),i3,if_neg d];exact⟨i1,i2,rfl⟩
  .rw[if_neg c];exact⟨i1,i2,i3⟩
section
variable{n:Nat}{es:List (Nat × Nat)}(h:InN n es)
include h
theorem Zs3(hi:i<n):Conn es i (mk (pms n es) i).toNat:=by obtain⟨a,b,c⟩:=ZZ2 es h i hi;exact(Zz03 h hi (by grind)).mp c.symm
theorem Zv2(hi:i<n)(hj:j<n)(c:Conn es i j):mk (pms n es) i<=(j:Int):=by rw[(Zz03 h hi hj).mpr c];exact(ZZ2 es h j hj).2.1
end
theorem ZB4{φ:Nat->Prop}(h:∀ e∈es,(φ e.1↔φ e.2))(c:Conn es i j):φ i↔φ j:=by
 induction c with
 | refl i=>exact Iff.rfl
 | edge q=>exact h _ q
 | symm _ ih=>exact ih.symm
 | trans _ _ i1 i2=>exact i1.trans i2
theorem ZX9(f:Nat->Nat)(h:∀ e∈es,Conn fs (f e.1) (f e.2))(c:Conn es i j):Conn fs (f i) (f j):=by
 induction c with
 | refl i=>exact .refl _
 | edge e=>exact h _ e
 | symm _ ih=>exact ih.symm
 | trans _ _ ih1 ih2=>exact ih1.trans ih2
theorem Zz911(f:Int->Int):∀ {l:Ac},l≠[]->∃ m∈l,∀ z∈l,f z<=f m
 | [x],_=>⟨x,by simp,λz hz=>by rw[Yy1.mp hz];exact Y0G _⟩
 | x :: y :: l,_=>by
  obtain⟨m,hm,q⟩:=Zz911 f (l:=y :: l) (by simp);by_cases c:f m<=f x
  .exact⟨x,by simp,λz hz=>by
    rcases Ye.mp hz with r | r
    .rw[r];exact Y0G _
    .exact Yy22 (q z r) c⟩
  .exact⟨m,Yi _ hm,λz hz=>by
    rcases Ye.mp hz with r | r
    .rw[r];lia
    .exact q z r⟩
abbrev lnz(ls:Ac)(z:Int):Int:=ls.getD z.toNat 0
def lwS(ls:Ac)(x:Int):Ac:=(rgL ls.length).filter λz=>decide (lnz ls z<x)
def leS(ls:Ac)(x:Int):Ac:=(rgL ls.length).filter λz=>decide (lnz ls z<=x)
theorem lwS_mem:z∈lwS ls x↔(0<=z/\z<(ls.length:Int))/\lnz ls z<x:=by unfold lwS;rw[Yn,rgL_mem,YH]
theorem leS_mem:z∈leS ls x↔(0<=z/\z<(ls.length:Int))/\lnz ls z<=x:=by unfold leS;rw[Yn,rgL_mem,YH]
theorem ZC3(h:y<x)(hz:z∈lwS ls x)(hy:lnz ls z=y):(lwS ls y).length<(lwS ls x).length:=by
 have hn:∀ x,(lwS ls x).Nodup:=λx=>(Zz16 (Yz5 _)).filter _;have hz2:z∉lwS ls y:=λc=>by have:=(lwS_mem.mp c).2;lia
 exact ZF1 (l:=z :: lwS ls y) (Y0p.mpr ⟨hz2,hn y⟩) λw hw=>by
  rcases Ye.mp hw with r | r
  .exact r ▸ hz
  .have q:=lwS_mem.mp r;exact lwS_mem.mpr ⟨q.1,by lia⟩
def mA(N:Nat)(ps:Aa)(ls:Ac)(x:Int):Ac:=pms N (Zz7 ps (lwS ls x))
def mB(N:Nat)(ps:Aa)(ls:Ac)(x:Int):Ac:=pms N (Zz7 ps (leS ls x))
def spt(N:Nat)(ps:Aa)(ls:Ac)(x:Int)(i:Nat):Int:=if mk (mA N ps ls x) i=mk (mB N ps ls x) i then 0 else mk (mA N ps ls x) i
def cwT(N:Nat)(ps:Aa)(ls:Ac):Aa:=(List.range ps.length).map λi=>(spt N ps ls (ls.getD i 0) (ps.getD i (0,0)).1.toNat,spt N ps ls (ls.getD i 0) (ps.getD i (0,0)).2.toNat)
theorem Zd3(N:Nat)(ps:Aa)(ls:Ac):(cwT N ps ls).length=ps.length:=by unfold cwT;rw[Yc,YK]
theorem ZT9(h0:0<=z)(h1:z<(ps.length:Int)):Zu (cwT N ps ls) z=((spt N ps ls (lnz ls z) (Zu ps z).1).toNat,(spt N ps ls (lnz ls z) (Zu ps z).2).toNat):=by
 have e:(cwT N ps ls).getD z.toNat (0,0)=(spt N ps ls (lnz ls z) (Zu ps z).1,spt N ps ls (lnz ls z) (Zu ps z).2):=by unfold cwT;rw[Yy7,Yp,Y0t (by lia)];rfl
 unfold Zu at *;rw[e]
section
variable{n:Int}{ps:Aa}{ls T:Ac}(g:Zy n ps)(hl:ls.length=ps.length)
include g hl
theorem inA(x:Int):InN n.toNat (Zz7 ps (lwS ls x)):=ZT g λz hz=>by have:=(lwS_mem.mp hz).1;lia
theorem inB(x:Int):InN n.toNat (Zz7 ps (leS ls x)):=ZT g λz hz=>by have:=(leS_mem.mp hz).1;omega
theorem ownA(x:Int)(hi:i<n.toNat):0<=mk (mA n.toNat ps ls x) i/\mk (mA n.toNat ps ls x) i<=(i:Int)/\mk (mA n.toNat ps ls x) (mk (mA n.toNat ps ls x) i).toNat=mk (mA n.toNat ps ls x) i:=ZZ2 _ (inA g hl x) i hi
theorem ownB(x:Int)(hi:i<n.toNat):0<=mk (mB n.toNat ps ls x) i/\mk (mB n.toNat ps ls x) i<=(i:Int)/\mk (mB n.toNat ps ls x) (mk (mB n.toNat ps ls x) i).toNat=mk (mB n.toNat ps ls x) i:=ZZ2 _ (inB g hl x) i hi
theorem Zz712(x:Int)(hi:i<n.toNat):Conn (Zz7 ps (lwS ls x)) i (mk (mA n.toNat ps ls x) i).toNat:=Zs3 (inA g hl x) hi
theorem Zz213(x:Int)(hi:i<n.toNat):Conn (Zz7 ps (leS ls x)) i (mk (mB n.toNat ps ls x) i).toNat:=Zs3 (inB g hl x) hi
theorem iffA(x:Int)(hi:i<n.toNat)(hj:j<n.toNat):mk (mA n.toNat ps ls x) i=mk (mA n.toNat ps ls x) j↔Conn (Zz7 ps (lwS ls x)) i j:=Zz03 (inA g hl x) hi hj
theorem iffB(x:Int)(hi:i<n.toNat)(hj:j<n.toNat):mk (mB n.toNat ps ls x) i=mk (mB n.toNat ps ls x) j↔Conn (Zz7 ps (leS ls x)) i j:=Zz03 (inB g hl x) hi hj
theorem ZN12(x:Int){i j:Nat}(hi:i<n.toNat)(hj:j<n.toNat)(c:Conn (Zz7 ps (lwS ls x)) i j):mk (mA n.toNat ps ls x) i<=(j:Int):=Zv2 (inA g hl x) hi hj c
theorem Zs9(x:Int){i j:Nat}(hi:i<n.toNat)(hj:j<n.toNat)(c:Conn (Zz7 ps (leS ls x)) i j):mk (mB n.toNat ps ls x) i<=(j:Int):=Zv2 (inB g hl x) hi hj c
theorem ZK8(x:Int){i j:Nat}(c:Conn (Zz7 ps (lwS ls x)) i j):Conn (Zz7 ps (leS ls x)) i j:=c.mono (Zt λz hz=>by have:=lwS_mem.mp hz;exact leS_mem.mpr ⟨this.1,by lia⟩)
theorem Zj12(h:y<x){i j:Nat}(c:Conn (Zz7 ps (leS ls y)) i j):Conn (Zz7 ps (lwS ls x)) i j:=c.mono (Zt λz hz=>by have:=leS_mem.mp hz;exact lwS_mem.mpr ⟨this.1,by omega⟩)
theorem Zx7(hv:v<n.toNat)(a1:mk (mA n.toNat ps ls x) v=v)(b1:mk (mB n.toNat ps ls x) v≠v)(a2:mk (mA n.toNat ps ls y) v=v)(b2:mk (mB n.toNat ps ls y) v≠v):x=y:=by
 have key:∀ x y:Int,y<x->mk (mA n.toNat ps ls x) v=v->mk (mB n.toNat ps ls y) v≠v->False:=λx y h a b=>by
  obtain⟨o1,o2,_⟩:=ownB g hl y hv
  have:=ZN12 g hl x hv (by grind) (Zj12 g hl h (Zz213 g hl y hv))
  lia
 rcases Int.lt_trichotomy x y with c | c | c
 .exact(key y x c a2 b1).elim
 .exact c
 .exact(key x y c a1 b2).elim
theorem Zz57(hi:i<n.toNat):0<=spt n.toNat ps ls x i/\spt n.toNat ps ls x i<n/\(spt n.toNat ps ls x i≠0->spt n.toNat ps ls x i=mk (mA n.toNat ps ls x) i/\mk (mA n.toNat ps ls x) (spt n.toNat ps ls x i).toNat=spt n.toNat ps ls x i/\mk (mB n.toNat ps ls x) (spt n.toNat ps ls x i).toNat≠spt n.toNat ps ls x i):=by
 obtain⟨o1,o2,o3⟩:=ownA g hl x hi;unfold spt;by_cases c:mk (mA n.toNat ps ls x) i=mk (mB n.toNat ps ls x) i
 .rw[if_pos c];exact⟨Y0G _,by lia,λh=>absurd rfl h⟩
 .rw[if_neg c];refine⟨o1,by lia,λ_=>⟨rfl,o3,λe=>c ?_⟩⟩;rw[<- e];exact(iffB g hl x (by lia) hi).mpr (ZK8 g hl x (Zz712 g hl x hi)).symm
theorem Zc3:Zy n (cwT n.toNat ps ls):=by
 obtain⟨g1,g2,g3,g4⟩:=id g;refine⟨g1,g2,by rw[Zd3];exact g3,λp hp=>?_⟩;unfold cwT at hp;obtain⟨i,hi,rfl⟩:=Yx.mp hp;have hi:=YG.mp hi
 have he:=Zf1 (z:=(i:Int)) g (by lia) (by lia);unfold Zu at he;rw[Yw]at he;have h1:=Zz57 g hl (x:=ls.getD i 0) he.1
 have h2:=Zz57 g hl (x:=ls.getD i 0) he.2;exact⟨h1.1,h1.2.1,h2.1,h2.2.1⟩
theorem ZE6(hT:Zf n (cwT n.toNat ps ls) T):∀(k:Nat) (x:Int),(lwS ls x).length=k->∀ a,a<n.toNat->Conn (Zz7 ps (T.filter λz=>decide (lnz ls z<=x))) a (mk (mB n.toNat ps ls x) a).toNat:=by
 intro k
 induction k using Nat.strongRecOn with
 | ind k ih =>
  intro x hk;obtain⟨t1,t2,t3⟩:=id hT;rw[Zd3]at t1;have tm:∀ {y z:Int},z∈T.filter (λz=>decide (lnz ls z<=y))↔z∈T/\lnz ls z<=y:=by intro y z;rw[Yn,YH]
  have low:∀ {i j:Nat},Conn (Zz7 ps (lwS ls x)) i j->Conn (Zz7 ps (T.filter λz=>decide (lnz ls z<=x))) i j:=λc=>c.lift λe he=>by
   obtain⟨z,hz,rfl⟩:=Yx.mp he;have q:=lwS_mem.mp hz
   have hz2:z∈leS ls (lnz ls z):=leS_mem.mpr ⟨q.1,Y0G _⟩;have ee:=Zf1 (z:=z) g q.1.1 (by lia)
   have i1:=ih _ (by rw[<- hk];exact ZC3 q.2 hz rfl) (lnz ls z) rfl _ ee.1;have i2:=ih _ (by rw[<- hk];exact ZC3 q.2 hz rfl) (lnz ls z) rfl _ ee.2
   have e1:mk (mB n.toNat ps ls (lnz ls z)) (Zu ps z).1=mk (mB n.toNat ps ls (lnz ls z)) (Zu ps z).2:=(iffB g hl _ ee.1 ee.2).mpr (.edge (Yx.mpr ⟨z,hz2,rfl⟩));rw[e1]at i1;exact(i1.trans i2.symm).mono (Zt λw hw=>by have:=tm.mp hw;exact tm.mpr ⟨this.1,by lia⟩)
  have atA:∀ a,a<n.toNat->Conn (Zz7 ps (T.filter λz=>decide (lnz ls z<=x))) a (mk (mA n.toNat ps ls x) a).toNat:=λa ha=>low (Zz712 g hl x ha);have bA:∀ a,a<n.toNat->mk (mB n.toNat ps ls x) (mk (mA n.toNat ps ls x) a).toNat=mk (mB n.toNat ps ls x) a:=λa ha=>by have o:=ownA g hl x ha;exact(iffB g hl x (by lia) ha).mpr (ZK8 g hl x (Zz712 g hl x ha)).symm
  obtain⟨φ,hφ⟩:∃ φ:Nat->Prop,φ=λw=>w<n.toNat->mk (mA n.toNat ps ls x) w=w->mk (mB n.toNat ps ls x) w≠w->Conn (Zz7 ps (T.filter λz=>decide (lnz ls z<=x))) w (mk (mB n.toNat ps ls x) w).toNat:=⟨_,rfl⟩;have phi0:φ 0:=by
   rw[hφ];intro h1 _ h3
   have:=ownB g hl x h1
   exact absurd (by lia) h3
  have other:∀(y:Int) (a:Nat),a<n.toNat->y≠x->φ (spt n.toNat ps ls y a).toNat:=λy a ha hy=>by
   obtain⟨q0,q1,q2⟩:=Zz57 g hl (x:=y) ha;by_cases c:spt n.toNat ps ls y a=0
   .rw[c];exact phi0
   .obtain⟨_,q3,q4⟩:=q2 c;rw[hφ];intro h1 h2 h3;exact absurd (Zx7 g hl (v:=(spt n.toNat ps ls y a).toNat) (by lia) (by rw[q3];omega) (λe=>q4 (by rw[e];omega)) h2 h3) hy
  have own:∀ a,a<n.toNat->(φ (spt n.toNat ps ls x a).toNat↔Conn (Zz7 ps (T.filter λz=>decide (lnz ls z<=x))) a (mk (mB n.toNat ps ls x) a).toNat):=λa ha=>by
   by_cases c:mk (mA n.toNat ps ls x) a=mk (mB n.toNat ps ls x) a
   .have e:spt n.toNat ps ls x a=0:=by unfold spt;rw[if_pos c]
    rw[e];refine⟨λ_=>?_,λ_=>phi0⟩
    have:=atA a ha
    rwa[c]at this
   .have e:spt n.toNat ps ls x a=mk (mA n.toNat ps ls x) a:=by unfold spt;rw[if_neg c]
    obtain⟨o1,o2,o3⟩:=ownA g hl x ha;have ba:=bA a ha
    rw[e,hφ];show(_->_->_->Conn _ _ _)↔_
    rw[ba];constructor
    .intro h;exact(atA a ha).trans (h (by omega) (by rw[o3];omega) (λe2=>c (by rw[e2];omega)))
    .intro h _ _ _;exact(atA a ha).symm.trans h
  have all:∀ w,w<n.toNat->φ w:=λw hw=>by
   refine(ZB4 (φ:=φ) (λe he=>?_) (t3 0 w (by omega) hw)).mp phi0;obtain⟨z,hz,rfl⟩:=Yx.mp he;have zb:=t1.all z hz
   have ee:=Zf1 (z:=z) g zb.1 zb.2;show φ (Zu (cwT n.toNat ps ls) z).1↔φ (Zu (cwT n.toNat ps ls) z).2
   rw[ZT9 zb.1 zb.2];show φ (spt _ _ _ _ _).toNat↔φ (spt _ _ _ _ _).toNat
   by_cases c:lnz ls z=x
   .rw[c,own _ ee.1,own _ ee.2];have ce:Conn (Zz7 ps (T.filter λz=>decide (lnz ls z<=x))) (Zu ps z).1 (Zu ps z).2:=.edge (Yx.mpr ⟨z,tm.mpr ⟨hz,by omega⟩,rfl⟩)
    have e1:mk (mB n.toNat ps ls x) (Zu ps z).1=mk (mB n.toNat ps ls x) (Zu ps z).2:=(iffB g hl _ ee.1 ee.2).mpr (.edge (Yx.mpr ⟨z,leS_mem.mpr ⟨⟨zb.1,by omega⟩,by omega⟩,rfl⟩));rw[e1];exact⟨λh=>ce.symm.trans h,λh=>ce.trans h⟩
   .exact⟨λ_=>other _ _ ee.2 c,λ_=>other _ _ ee.1 c⟩
  intro a ha;obtain⟨o1,o2,o3⟩:=ownA g hl x ha;have ba:=bA a ha
  have c1:=atA a ha;by_cases c:mk (mB n.toNat ps ls x) (mk (mA n.toNat ps ls x) a).toNat=mk (mA n.toNat ps ls x) a
  .rw[<- ba,c];exact c1
  .have:=all (mk (mA n.toNat ps ls x) a).toNat (by omega)
   rw[hφ]at this
   have:=this (by omega) (by rw[o3];omega) (λe=>c (by rw[e];omega))
   rw[ba]at this;exact c1.trans this
end
def LvT(n:Int)(ps:Aa)(ls T:Ac):Prop:=∀(x:Int) (i j:Nat),i<n.toNat->j<n.toNat->Conn (Zz7 ps (leS ls x)) i j->Conn (Zz7 ps (T.filter λz=>decide (lnz ls z<=x))) i j
def NoG(n:Int)(ps:Aa)(ls T:Ac):Prop:=∀ o z,exg n ps T o z->lnz ls o<=lnz ls z
theorem Zb11(ls:Ac):∃ U:Int,∀ z:Int,lnz ls z<=U:=by
 have h:∀ l:Ac,∃ U:Int,∀ i:Nat,l.getD i 0<=U:=by
  intro l
  induction l with
  | nil=>exact⟨0,λi=>by simp⟩
  | cons x l ih =>
   obtain⟨U,hU⟩:=ih;refine⟨max x U,λi=>?_⟩;cases i with
   | zero=>show x<=_;lia
   | succ i=>have:=hU i;show l.getD i 0<=_;grind
 obtain⟨U,hU⟩:=h ls;exact⟨U,λz=>hU z.toNat⟩
section
variable{n:Int}{ps:Aa}{ls T:Ac}(g:Zy n ps)(hl:ls.length=ps.length)
include g hl
theorem ZM13(hT:Zf n (cwT n.toNat ps ls) T):LvT n ps ls T:=λx i j hi hj c=>by
 have h1:=ZE6 g hl hT _ x rfl i hi;have h2:=ZE6 g hl hT _ x rfl j hj
 rw[(iffB g hl x hi hj).mpr c]at h1;exact h1.trans h2.symm
theorem Zf13(hT:Zf n (cwT n.toNat ps ls) T):Zf n ps T:=by
 obtain⟨t1,t2,t3⟩:=id hT;rw[Zd3]at t1;obtain⟨U,hU⟩:=Zb11 ls;have zero:∀ a,a<n.toNat->mk (mB n.toNat ps ls U) a=0:=λa ha=>by
  obtain⟨o1,o2,o3⟩:=ownB g hl U ha;refine Yr λno=>?_;obtain⟨v,hv⟩:∃ v:Nat,v=(mk (mB n.toNat ps ls U) a).toNat:=⟨_,rfl⟩;have v0:v≠0:=by lia
  have vn:v<n.toNat:=by lia
  have ov:mk (mB n.toNat ps ls U) v=(v:Int):=by rw[hv,o3];lia
  have st:=ZB4 (φ:=λw=>w≠v) (λe he=>by
   obtain⟨z,hz,rfl⟩:=Yx.mp he;have zb:=t1.all z hz
   have ee:=Zf1 (z:=z) g zb.1 zb.2;show(Zu (cwT n.toNat ps ls) z).1≠v↔(Zu (cwT n.toNat ps ls) z).2≠v
   rw[ZT9 zb.1 zb.2];have key:∀ c,c<n.toNat->(spt n.toNat ps ls (lnz ls z) c).toNat≠v:=λc hc e=>by
    obtain⟨q0,q1,q2⟩:=Zz57 g hl (x:=lnz ls z) hc;obtain⟨_,q3,q4⟩:=q2 (by grind);rw[e]at q3 q4;have ov2:=ownB g hl (lnz ls z) vn
    have cb:=Zz213 g hl (lnz ls z) vn;have cu:Conn (Zz7 ps (leS ls U)) v (mk (mB n.toNat ps ls (lnz ls z)) v).toNat:=cb.mono (Zt λy hy=>by have:=leS_mem.mp hy;exact leS_mem.mpr ⟨this.1,hU y⟩)
    have:=Zs9 g hl U vn (by lia) cu
    lia
   exact⟨λ_=>key _ ee.2,λ_=>key _ ee.1⟩) (t3 0 v (by lia) vn)
  exact(st.mp (YR v0)) rfl
 refine⟨t1,t2,?_⟩;have key:∀ a,a<n.toNat->Conn (Zz7 ps T) a 0:=λa ha=>by have h1:=ZE6 g hl hT _ U rfl a ha;rw[zero a ha]at h1;exact h1.mono (Zt λz hz=>(Yn.mp hz).1)
 exact λi j hi hj=>(key i hi).trans (key j hj).symm
theorem Zr9(hv:v<n.toNat):∀(k:Nat) (x:Int),(lwS ls x).length=k->mk (mB n.toNat ps ls x) v≠v->∃ y,mk (mA n.toNat ps ls y) v=v/\mk (mB n.toNat ps ls y) v≠v:=by
 intro k
 induction k using Nat.strongRecOn with
 | ind k ih =>
  intro x hk hb;by_cases c:mk (mA n.toNat ps ls x) v=v
  .exact⟨x,c,hb⟩
  .have ne:lwS ls x≠[]:=λe=>c (by unfold mA;rw[e];exact Yz1 hv)
   obtain⟨m,hm,q⟩:=Zz911 (lnz ls) ne;have hm2:=lwS_mem.mp hm
   have e:leS ls (lnz ls m)=lwS ls x:=by
    unfold leS lwS;refine List.filter_congr λz hz=>?_;rw[decide_eq_decide];constructor
    .intro h;lia
    .intro h;exact q z (lwS_mem.mpr ⟨rgL_mem.mp hz,h⟩)
   refine ih _ (by rw[<- hk];exact ZC3 hm2.2 hm rfl) (lnz ls m) rfl ?_;have e2:mB n.toNat ps ls (lnz ls m)=mA n.toNat ps ls x:=by unfold mB mA;rw[e]
   rwa[e2]
theorem ZL13(hT:Zf n ps T)(hv:LvT n ps ls T):Zf n (cwT n.toNat ps ls) T:=by
 obtain⟨t1,t2,t3⟩:=id hT;obtain⟨U,hU⟩:=Zb11 ls;refine⟨by rw[Zd3];exact t1,t2,?_⟩;have tm:∀ {y z:Int},z∈T.filter (λz=>decide (lnz ls z<=y))↔z∈T/\lnz ls z<=y:=by intro y z;rw[Yn,YH]
 have key:∀ v,v<n.toNat->Conn (Zz7 (cwT n.toNat ps ls) T) v 0:=λv hvn=>by
  by_cases v0:v=0
  .rw[v0];exact .refl _
  have bU:mk (mB n.toNat ps ls U) v≠v:=by
   have cu:Conn (Zz7 ps (leS ls U)) v 0:=(t3 v 0 hvn (by lia)).mono (Zt λy hy=>by have:=t1.all y hy;exact leS_mem.mpr ⟨⟨this.1,by lia⟩,hU y⟩)
   have:=Zs9 g hl U hvn (by omega) cu
   lia
  obtain⟨y,ya,yb⟩:=Zr9 g hl hvn _ U rfl bU;obtain⟨b1,b2,b3⟩:=ownB g hl y hvn;obtain⟨u,hu⟩:∃ u:Nat,u=(mk (mB n.toNat ps ls y) v).toNat:=⟨_,rfl⟩;have un:u<n.toNat:=by grind
  have bu:mk (mB n.toNat ps ls y) u=(u:Int):=by rw[hu,b3];lia
  have cvu:Conn (Zz7 ps (leS ls y)) v u:=by rw[hu];exact Zz213 g hl y hvn
  have cT:=hv y v u hvn un cvu;have mp:=ZX9 (fs:=Zz7 (cwT n.toNat ps ls) T) (λi=>(spt n.toNat ps ls y i).toNat) (λe he=>by
   obtain⟨z,hz,rfl⟩:=Yx.mp he;obtain⟨zT,zy⟩:=tm.mp hz;have zb:=t1.all z zT
   have ee:=Zf1 (z:=z) g zb.1 zb.2;show Conn _ (spt n.toNat ps ls y (Zu ps z).1).toNat (spt n.toNat ps ls y (Zu ps z).2).toNat
   by_cases c:lnz ls z=y
   .have e:=ZT9 (N:=n.toNat) (ls:=ls) zb.1 zb.2;rw[c]at e
    have:(Zu (cwT n.toNat ps ls) z)∈Zz7 (cwT n.toNat ps ls) T:=Yx.mpr ⟨z,zT,rfl⟩
    rw[e]at this;exact .edge this
   .have z1:z∈lwS ls y:=lwS_mem.mpr ⟨⟨zb.1,by lia⟩,by lia⟩;have z2:z∈leS ls y:=leS_mem.mpr ⟨⟨zb.1,by omega⟩,zy⟩
    have ea:=(iffA g hl y ee.1 ee.2).mpr (.edge (Yx.mpr ⟨z,z1,rfl⟩));have eb:=(iffB g hl y ee.1 ee.2).mpr (.edge (Yx.mpr ⟨z,z2,rfl⟩))
    have e:spt n.toNat ps ls y (Zu ps z).1=spt n.toNat ps ls y (Zu ps z).2:=by unfold spt;rw[ea,eb]
    rw[e];exact .refl _) cT
  have sv:spt n.toNat ps ls y v=(v:Int):=by unfold spt;rw[if_neg (by lia),ya]
  have su:spt n.toNat ps ls y u=0:=by
   obtain⟨a1,a2,a3⟩:=ownA g hl y un;have ca:=Zz712 g hl y un
   have:=Zs9 g hl y (i:=(mk (mA n.toNat ps ls y) u).toNat) (j:=(mk (mA n.toNat ps ls y) u).toNat) (by grind) (by omega) (.refl _)
   have e1:mk (mB n.toNat ps ls y) (mk (mA n.toNat ps ls y) u).toNat=mk (mB n.toNat ps ls y) u:=(iffB g hl y (by omega) un).mpr (ZK8 g hl y ca).symm;unfold spt;rw[if_pos (by lia)]
  have mp:Conn (Zz7 (cwT n.toNat ps ls) T) (spt n.toNat ps ls y v).toNat (spt n.toNat ps ls y u).toNat:=mp;rwa[sv,su]at mp
 exact λi j hi hj=>(key i hi).trans (key j hj).symm
omit hl in
theorem ZC13(hl:ls.length=ps.length)(hT:Zf n ps T)(hg:NoG n ps ls T):LvT n ps ls T:=λx i j _ _ c=>c.lift λe he=>by
 obtain⟨z,hz,rfl⟩:=Yx.mp he;obtain⟨zb,zx⟩:=leS_mem.mp hz;show Conn _ (Zu ps z).1 (Zu ps z).2
 by_cases zT:z∈T
 .exact .edge (Yx.mpr ⟨z,Yn.mpr ⟨zT,Yt zx⟩,rfl⟩)
 .refine(Zz24 g hT zb.1 (by lia)).mono (Zt λy hy=>?_);obtain⟨yT,yc⟩:=ringA_mem.mp hy
  have:=hg y z ⟨yT,λe=>zT (e ▸ yT),yc⟩
  exact Yn.mpr ⟨yT,Yt (by lia)⟩
theorem Za11(hT:Zf n ps T)(hv:LvT n ps ls T):NoG n ps ls T:=λo z he=>by
 refine Yr λno=>?_;obtain⟨h1,h2,h3⟩:=he;obtain⟨z0,z1⟩:=ZR2 h3;have ee:=Zf1 (z:=z) g z0 z1
 refine(Zz11 g hT z0 z1).mp h3 ?_;refine(hv (lnz ls z) _ _ ee.1 ee.2 (.edge (Yx.mpr ⟨z,leS_mem.mpr ⟨⟨z0,by lia⟩,Y0G _⟩,rfl⟩))).mono (Zt λy hy=>?_);obtain⟨yT,yl⟩:=Yn.mp hy;have yl:=Yy yl
 exact wo_mem.mpr ⟨yT,λe=>no (by rwa[<- e])⟩
theorem ZO11:Zf n (cwT n.toNat ps ls) T↔Zf n ps T/\NoG n ps ls T :=
 ⟨λh=>⟨Zf13 g hl h,Za11 g hl (Zf13 g hl h) (ZM13 g hl h)⟩,λh=>ZL13 g hl h.1 (ZC13 g hl h.1 h.2)⟩
end
theorem ZL10(h1:InN n es)(h2:InN n fs)(h:∀ i j,Conn es i j↔Conn fs i j):pms n es=pms n fs:=by
 have key:∀ {es fs:List (Nat × Nat)},InN n es->InN n fs->(∀ i j,Conn es i j↔Conn fs i j)->∀ i,i<n->mk (pms n es) i<=mk (pms n fs) i:=λ{es fs} h1 h2 h i hi=>by
  obtain⟨o1,o2,_⟩:=ZZ2 fs h2 i hi
  have:=Zv2 h1 hi (by grind) ((h i _).mpr (Zs3 h2 hi))
  lia
 refine Y0F λi=>?_;by_cases c:i<n
 .rw[ZJ1 (by rwa[Zo]),ZJ1 (by rwa[Zo])];exact YZ some (Int.le_antisymm (key h1 h2 h i c) (key h2 h1 (λi j=>(h i j).symm) i c))
 .rw[YJ (by rw[Zo];lia),YJ (by rw[Zo];omega)]
def lvl(ls:Ac)(x:Int)(i:Nat):Ac:=(rgL i).filter λz=>decide (lnz ls z=x)
theorem ZZ5(ls:Ac)(x:Int)(i:Nat):lvl ls x (i+1)=lvl ls x i++(if ls.getD i 0=x then [(i:Int)] else []):=by
 unfold lvl rgL;rw[Y0L,YC,Yy04];congr 1;have e:lnz ls (i:Int)=ls.getD i 0:=by unfold lnz;rw[Yw]
 by_cases c:ls.getD i 0=x
 .rw[if_pos c];exact Y1o (by simp only [YH];rwa[e])
 .rw[if_neg c];exact Y1p (by simp only [YH];rwa[e])
theorem lvl_mem:z∈lvl ls x i↔(0<=z/\z<(i:Int))/\lnz ls z=x:=by unfold lvl;rw[Yn,rgL_mem,YH]
theorem Zz78(ls:Ac)(x:Int)(i:Nat):IsSet i (lvl ls x i):=isSet_iff.mpr ⟨λz hz=>(lvl_mem.mp hz).1,(Yz5 i).filter _⟩
def cwP(N:Nat)(ps:Aa)(ls:Ac)(i:Nat):Int × Int:=(spt N ps ls (ls.getD i 0) (ps.getD i (0,0)).1.toNat,spt N ps ls (ls.getD i 0) (ps.getD i (0,0)).2.toNat)
def mdT(N:Nat)(ps:Aa)(ls:Ac)(p:Nat->Prop)[DecidablePred p]:Aa:=(List.range ps.length).map λi=>if p i then cwP N ps ls i else ps.getD i (0,0)
theorem Zz611(N:Nat)(ps:Aa)(ls:Ac)(p:Nat->Prop)[DecidablePred p]:(mdT N ps ls p).length=ps.length:=by unfold mdT;rw[Yc,YK]
theorem Zc4{p q:Nat->Prop}[DecidablePred p][DecidablePred q](h:∀ i,i<ps.length->(p i↔q i)):mdT N ps ls p=mdT N ps ls q:=by
 unfold mdT;refine YM λi hi=>?_
 have:=h i (YG.mp hi)
 by_cases c:p i
 .rw[if_pos c,if_pos (this.mp c)]
 .rw[if_neg c,if_neg λd=>c (this.mpr d)]
theorem Zk9{p:Nat->Prop}[DecidablePred p](h:∀ i,i<ps.length->¬ p i):mdT N ps ls p=ps:=by
 unfold mdT;refine Y0F λi=>?_;rw[Yp];by_cases c:i<ps.length
 .rw[Y0t c,Yy2 c];show some (if p i then _ else ps.getD i (0,0))=_
  rw[if_neg (h i c),Yy7,Yy2 c];rfl
 .rw[YJ (by rw[YK];lia),YJ (by omega)];rfl
theorem Zz711{p:Nat->Prop}[DecidablePred p](h:∀ i,i<ps.length->p i):mdT N ps ls p=cwT N ps ls:=by unfold mdT cwT;refine YM λi hi=>?_;rw[if_pos (h i (YG.mp hi))];rfl
theorem Zz511{p q:Nat->Prop}[DecidablePred p][DecidablePred q](h:∀ i,i<ps.length->(q i↔p i\/i=k)):(mdT N ps ls p).set k (cwP N ps ls k)=mdT N ps ls q:=by
 unfold mdT;refine Y0F λi=>?_;rw[Yp];by_cases c:i<ps.length
 .have hq:=h i c;rw[Y0t c];by_cases d:k=i
  .rw[d,Y1w (by rwa[Yc,YK])];show _=some (if q i then _ else _)
   rw[if_pos (hq.mpr (.inr d.symm))]
  .rw[Y1L d,Yp,Y0t c];show some (if p i then _ else _)=some (if q i then _ else _)
   by_cases e:p i
   .rw[if_pos e,if_pos (hq.mpr (.inl e))]
   .rw[if_neg e,if_neg λf=>(hq.mp f).elim e λg=>d g.symm]
 .rw[YJ (by rw[Y0y,Yc,YK];omega),YJ (by rw[YK];omega)];rfl
section
variable{n:Int}{ps:Aa}{ls Ls S:Ac}{j:Nat}{x:Int}(g:Zy n ps)(hl:ls.length=ps.length)(hLa:Ls.Pairwise (· < ·))(hLm:∀ z,z∈Ls↔z∈ls)(hx:Ls[j]?=some x)
include hLa hx
theorem ZQ7{y:Int}(hy:y∈Ls):y∈Ls.take j↔y<x:=by
 obtain⟨hj,e⟩:=Yy3.mp hx;constructor
 .intro h;obtain⟨i,hi,ei⟩:=Y2l.mp h;rw[YI]at hi;rw[List.getElem_take]at ei;rw[<- ei,<- e];exact Yy07.mp hLa i j (by grind) hj (by lia)
 .intro h;obtain⟨i,hi,ei⟩:=Y2l.mp hy
  have:i<j:=Yr λno=>by
   rcases Nat.lt_or_eq_of_le (Y1I no) with c | c
   .have:=Yy07.mp hLa j i hj hi c
    grind
   .subst c;lia
  exact Y2l.mpr ⟨i,by rw[YI];lia,by rwa[List.getElem_take]⟩
include g hl hLm
theorem Zm9(hS:∀ z,z∈S↔(0<=z/\z<(ps.length:Int))/\lnz ls z∈Ls.take j):pms n.toNat (Zz7 ps S)=mA n.toNat ps ls x:=by refine ZL10 (ZT g λz hz=>((hS z).mp hz).1) (inA g hl x) λa b=>Zc1 λz=>?_;rw[hS,lwS_mem,hl];refine and_congr_right λzb=>?_;refine ZQ7 hLa hx ((hLm _).mpr ?_);unfold lnz;rw[Yy7,Yy2 (show z.toNat<ls.length by grind)];exact Y0R _
theorem Zl9(hS:∀ z,z∈S↔(0<=z/\z<(ps.length:Int))/\lnz ls z∈Ls.take j):pmf (pms n.toNat (Zz7 ps S)) (Zz7 ps (lvl ls x ps.length))=pms n.toNat (Zz7 ps (S++lvl ls x ps.length))/\pms n.toNat (Zz7 ps (S++lvl ls x ps.length))=mB n.toNat ps ls x/\∀ z,z∈S++lvl ls x ps.length↔(0<=z/\z<(ps.length:Int))/\lnz ls z∈Ls.take (j+1):=by
 have m1:∀ z,z∈S++lvl ls x ps.length↔(0<=z/\z<(ps.length:Int))/\lnz ls z∈Ls.take (j+1):=λz=>by
  rw[Ya,hS,lvl_mem,YS,hx];show _↔_/\lnz ls z∈Ls.take j++[x]
  rw[Ya,Yy1];constructor
  .rintro(⟨a,b⟩ | ⟨a,b⟩)
   .exact⟨a,.inl b⟩
   .exact⟨a,.inr b⟩
  .rintro⟨a,b | b⟩
   .exact .inl ⟨a,b⟩
   .exact .inr ⟨a,b⟩
 refine⟨?_,?_,m1⟩
 .unfold pmf pms Zz7;rw[YC,Y1z]
 .refine ZL10 (ZT g λz hz=>((m1 z).mp hz).1) (inB g hl x) λa b=>Zc1 λz=>?_;rw[Ya,hS,lvl_mem,leS_mem,hl];have t:(0<=z/\z<(ps.length:Int))->(lnz ls z∈Ls.take j↔lnz ls z<x):=λzb=>ZQ7 hLa hx ((hLm _).mpr (by unfold lnz;rw[Yy7,Yy2 (show z.toNat<ls.length by omega)];exact Y0R _))
  constructor
  .rintro(⟨a,b⟩ | ⟨a,b⟩)
   .exact⟨a,Y2Y ((t a).mp b)⟩
   .exact⟨a,Int.le_of_eq b⟩
  .rintro⟨a,b⟩;rcases Int.lt_or_eq_of_le b with c | c
   .exact .inl ⟨a,(t a).mpr c⟩
   .exact .inr ⟨a,c⟩
end
def sumL(ls T:Ac):Int:=(T.map (lnz ls)).sum
theorem ZY3(h:a.Perm b):sumL ls a=sumL ls b:=by
 unfold sumL
 induction h with
 | nil=>rfl
 | cons x _ ih=>rw[YU,YU,Y0J,Y0J,ih]
 | swap x y l=>rw[YU,YU,YU,YU,Y0J,Y0J,Y0J,Y0J];lia
 | trans _ _ i1 i2=>exact i1.trans i2
theorem ZS7:∀ {T:Ac},T.Nodup->o∈T->sumL ls (wo T o)+lnz ls o=sumL ls T
 | [],_,h=>by cases h
 | x :: T,hn,h=>by
  obtain⟨n1,n2⟩:=Y0p.mp hn;unfold wo;by_cases c:x=o
  .rw[Y1p (by simpa using c)];have e:T.filter (λy=>decide (y≠o))=T:=Y1R.mpr λy hy=>Yt λe=>n1 (by rwa[c,<- e])
   rw[e,<- c];show sumL ls T+lnz ls x=lnz ls x+sumL ls T
   lia
  .rw[Y1o (by simpa using c)]
   have:=ZS7 (ls:=ls) n2 ((Ye.mp h).resolve_left λe=>c e.symm)
   show lnz ls x+sumL ls (wo T o)+lnz ls o=lnz ls x+sumL ls T;lia
theorem Zp2(hn:T.Nodup)(ho:o∈T)(hp:M.Perm (wo T o++[z])):sumL ls M=sumL ls T - lnz ls o+lnz ls z:=by
 rw[ZY3 hp]
 have:=ZS7 (ls:=ls) hn ho
 have e:sumL ls (wo T o++[z])=sumL ls (wo T o)+lnz ls z:=by unfold sumL;rw[YC,Y2x];exact Zz37 _ _
 grind
section
variable{n:Int}{ps:Aa}{ls T:Ac}(g:Zy n ps)
include g
theorem Zk5(hT:Zf n ps T)(hW:Zf n ps W)(h:∀ z∈T,z∈W):T.Perm W:=by
 have:=Zm2 (l:=W) hT.1.nodup (by have:=hT.2.1;have:=hW.2.1;lia) h
 exact this.symm
theorem Zz211(hT:Zf n ps T)(hg:NoG n ps ls T):∀(k:Nat) (W:Ac),Zf n ps W->(T.filter λz=>decide (z∉W)).length=k->sumL ls T<=sumL ls W:=by
 intro k
 induction k using Nat.strongRecOn with
 | ind k ih =>
  intro W hW hk;by_cases c:∀ z∈T,z∈W
  .rw[ZY3 (Zk5 g hT hW c)];exact Y0G _
  .obtain⟨z,hz⟩:∃ z,z∈T/\z∉W:=Yr λno=>c λz hz=>Yr λhn=>no ⟨z,hz,hn⟩;obtain⟨y,h1,h2⟩:=Zz13 g hT hW hz.1 hz.2;have lz:=hg z y h1
   obtain⟨M,hM1,hM2⟩:=Zs5 (wo W y++[z]);have tM:=ZH3 g hW h2 hM1 hM2
   have sM:=Zp2 (ls:=ls) hW.1.nodup h2.1 hM1;have yT:y∉T:=((Zs4 g hT).mp h1).2.1
   have less:(T.filter λx=>decide (x∉M)).length<k:=by
    rw[<- hk];refine ZF1 (l:=z :: T.filter λx=>decide (x∉M)) ?_ λx hx=>?_
    .refine Y0p.mpr ⟨λh=>?_,hT.1.nodup.filter _⟩
     have:=Yy (Yn.mp h).2
     exact this (hM1.mem_iff.mpr (Yb _ (Yy1.mpr rfl)))
    .rcases Ye.mp hx with e | e
     .rw[e];exact Yn.mpr ⟨hz.1,Yt hz.2⟩
     .obtain⟨e1,e2⟩:=Yn.mp e;have e2:=Yy e2
      refine Yn.mpr ⟨e1,Yt λh=>e2 (hM1.mem_iff.mpr (Yg _ (wo_mem.mpr ⟨h,λq=>yT (q ▸ e1)⟩)))⟩
   have:=ih _ less M tM rfl
   lia
theorem Zz411(hT:Zf n ps T)(h:∀ W,Zf n ps W->sumL ls T<=sumL ls W):NoG n ps ls T:=λo z he=>by
 obtain⟨M,hM1,hM2⟩:=Zs5 (wo T o++[z]);have tM:=ZH3 g hT he hM1 hM2
 have sM:=Zp2 (ls:=ls) hT.1.nodup he.1 hM1
 have:=h M tM
 lia
theorem ZS9(hl:ls.length=ps.length):Zf n (cwT n.toNat ps ls) T↔Zf n ps T/\∀ W,Zf n ps W->sumL ls T<=sumL ls W:=by rw[ZO11 g hl];exact⟨λh=>⟨h.1,λW hW=>Zz211 g h.1 h.2 _ W hW rfl⟩,λh=>⟨h.1,Zz411 g h.1 h.2⟩⟩
theorem ZA8(hl:ls.length=ps.length):(∃ W,Zf n ps W)↔∃ W,Zf n (cwT n.toNat ps ls) W:=by
 constructor
 .rintro⟨W,hW⟩;obtain⟨L,hL1,hL2⟩:=Zz10 g;have key:∀ l:Ab,l≠[]->∃ m∈l,∀ x∈l,sumL ls m<=sumL ls x:=by
   intro l
   induction l with
   | nil=>intro h;exact absurd rfl h
   | cons x l ih =>
    intro _;by_cases c:l=[]
    .rw[c];exact⟨x,by simp,λy hy=>by rw[Yy1.mp hy];exact Y0G _⟩
    .obtain⟨m,hm,q⟩:=ih c;by_cases d:sumL ls m<=sumL ls x
     .exact⟨m,Yi _ hm,λy hy=>by
       rcases Ye.mp hy with r | r
       .rw[r];exact d
       .exact q y r⟩
     .exact⟨x,by simp,λy hy=>by
       rcases Ye.mp hy with r | r
       .rw[r];exact Y0G _
       .have:=q y r;lia⟩
  obtain⟨m,hm,q⟩:=key L (λe=>by rw[e]at hL1;exact absurd ((hL1 W).mpr hW) (by simp));exact⟨m,(ZS9 g hl).mpr ⟨(hL1 m).mp hm,λV hV=>q V ((hL1 V).mpr hV)⟩⟩
 .rintro⟨W,hW⟩;exact⟨W,((ZS9 g hl).mp hW).1⟩
end
end My
namespace L2
open PySem PySem.Spec PyProof.Rows
section
variable{prog:Program}{w:World}{A:Around}{E:Ae}{s:Shared}
theorem Za5{x u a b:Value}{Q:Ae}(D:ZipApart z P O i j l t)(y0:IsZip s.heap z P O .none)(p0:IsPair s.heap P (.ref i) (.ref j))(o0:IsPair s.heap O a b)
  (hi:s.heap.IsTupleIter i l k) (hj:s.heap.IsTupleIter j t m) (hl:s.heap.IsTuple l xs) (ht:s.heap.IsTuple t us) (hx:xs[k]?=some x) (hu:us[m]?=some u)
  (q:∀ h',IsZip h' z P O (rawInt s.heap.objs.size)->IsPair h' O x u->h'.IsTupleIter i l (k+1)->h'.IsTupleIter j t (m+1)->IsPair h' s.heap.objs.size x u->h'.objs.size=s.heap.objs.size+1 ->
   (∀ c o,c≠z->c≠O->c≠i->c≠j->s.heap.get? c=some o->h'.get? c=some o)->Q (.ref s.heap.objs.size) { s with heap:=h' }) :
  wpAny (model prog w) A (Builtin.«zip.__next__» ⟨[.ref z],[]⟩) (λr s'=>∃ v,r=.done (.ret v)/\Q v s') E s:=by
 show wpAny _ _ (field (.ref z) 2 >>= _) _ E s;refine Yy0 (Yy10 y0 rfl (x:=.bool false) rfl ?_);show wpAny _ _ (field (.ref z) 3 >>= _) _ E s
 refine Yy0 (Yy10 y0 rfl (x:=.ref P) rfl (Yy0 (Y0l p0 rfl (Yy0 (m:=Builtin.SmallTypes.ownedTupleIsFree (.ref z)) ?_))));unfold Builtin.SmallTypes.ownedTupleIsFree;refine Yy0 (Yy10 y0 rfl (x:=.none) rfl (Yf ?_));simp only [Yy38];refine Yy0 (Y2p (Yy0 (Yy10 y0 rfl (x:=.ref O) rfl (Yy0 (Yy16 y0 (by simp) λg1 y1 w1=>Yy0 ?_)))))
 replace y1:IsZip g1 z P O .ellipsis:=y1
 simp only [Yy35,List.forIn_nil,List.zipIdx_cons,List.zipIdx_nil];refine Yy0 (Yy0 (Yy37 (Yy0 (m:=Builtin.SmallTypes.nextOf (.ref i)) ?_)));refine Zy3 (hi.extBut w1.extBut D.i1z) (hl.extBut w1.extBut D.l1z) hx λg2 i2 w2=>Yf ?_;have o2:IsPair g2 O a b:=w2.extBut _ _ D.TOi1 (w1.extBut _ _ D.TOz o0)
 refine Yy0 (Y0l o2 rfl (Yy0 (Y2F o2 λg3 o3 w3=>Yy0 (Y1T (Yf ?_)))))
 replace o3:IsPair g3 O x b:=o3
 refine Yy0 (Yy0 (Yy37 (Yy0 (m:=Builtin.SmallTypes.nextOf (.ref j)) ?_)));refine Zy3 (((hj.extBut w1.extBut D.i2z).extBut w2.extBut D.i12.symm).extBut w3.extBut D.TOi2.symm) (((ht.extBut w1.extBut D.l2z).extBut w2.extBut D.l2i1).extBut w3.extBut D.l2TO) hu λg4 j4 w4=>Yf ?_;have o4:IsPair g4 O x b:=w4.extBut _ _ D.TOi2 o3
 refine Yy0 (Y0l o4 rfl (Yy0 (Y2F o4 λg5 o5 w5=>Yy0 (Y1T (Yf (Yf ?_))))))
 replace o5:IsPair g5 O x u:=o5
 refine Yy0 (Y0l o5 rfl (Yy0 (wpAny_newTuple ?_)));have sz:g5.objs.size=s.heap.objs.size:=by rw[w5.1,w4.1,w3.1,w2.1,w1.1]
 have y5:IsZip g5 z P O .ellipsis:=w5.extBut _ _ D.TOz.symm (w4.extBut _ _ D.i2z.symm (w3.extBut _ _ D.TOz.symm (w2.extBut _ _ D.i1z.symm y1)));have kp:∀ c o,c≠z->c≠O->c≠i->c≠j->s.heap.get? c=some o->g5.get? c=some o:=λc o c1 c2 c3 c4 e=>w5.extBut _ _ c2 (w4.extBut _ _ c4 (w3.extBut _ _ c2 (w2.extBut _ _ c3 (w1.extBut _ _ c1 e))))
 have i5:g5.IsTupleIter i l (k+1):=((i2.extBut w3.extBut D.TOi1.symm).extBut w4.extBut D.i12).extBut w5.extBut D.TOi1.symm;have j5:g5.IsTupleIter j t (m+1):=j4.extBut w5.extBut D.TOi2.symm
 have lz:z<g5.objs.size:=Yh y5;show wpAny _ _ (Builtin.SmallTypes.ownedTupleHandOut (.ref z) (.ref g5.objs.size) >>= _) _ E _
 refine Yy0 ?_;unfold Builtin.SmallTypes.ownedTupleHandOut;have y6:IsZip (g5.push { cls:=.type "tuple",data:=.seq #[x,u] }) z P O .ellipsis:=Yy4 _ y5
 refine Yy0 (Yy16 y6 (by simp) λg7 y7 w7=>?_)
 replace y7:IsZip g7 z P O (rawInt g5.objs.size):=y7
 refine Yy16 y7 (by simp) λg8 y8 w8=>?_
 replace y8:IsZip g8 z P O (rawInt g5.objs.size):=y8
 have up:∀ c o,c≠z->g5.get? c=some o->g8.get? c=some o:=λc o c1 e=>w8.extBut _ _ c1 (w7.extBut _ _ c1 (Yy4 _ e));have n8:IsPair g8 g5.objs.size x u:=w8.extBut _ _ (Y0u lz) (w7.extBut _ _ (Y0u lz) (Yj _ rfl))
 have z8:g8.objs.size=g5.objs.size+1:=by rw[w8.1,w7.1,Y0n]
 rw[sz]at y8 n8 z8;refine Yf ⟨_,rfl,?_⟩;show Q (.ref g5.objs.size) _
 rw[sz];exact q g8 y8 (up _ _ D.TOz o5) (i5.at λo e=>up _ o D.i1z e) (j5.at λo e=>up _ o D.i2z e) n8 z8 λc o c1 c2 c3 c4 e=>up c o c1 (kp c o c1 c2 c3 c4 e)
theorem Zz17{Q:Fin->Shared->Prop}(hh:A.handled=none)(D:ZipApart z P O i j l t)(y0:IsZip s.heap z P O .none)(p0:IsPair s.heap P (.ref i) (.ref j))(o0:IsPair s.heap O a b)
  (hi:s.heap.IsTupleIter i l k) (hj:s.heap.IsTupleIter j t m) (hl:s.heap.IsTuple l xs) (ht:s.heap.IsTuple t us) (hE:xs[k]?=none\/us[m]?=none)
  (q:∀ h' e,(∀ c o,c≠z->c≠O->c≠i->c≠j->s.heap.get? c=some o->h'.get? c=some o)->(∃ o,h'.get? e=some o/\o.cls=.type "StopIteration")->E (.ref e) { s with heap:=h' }) :
  wpAny (model prog w) A (Builtin.«zip.__next__» ⟨[.ref z],[]⟩) Q E s:=by
 show wpAny _ _ (field (.ref z) 2 >>= _) _ E s;refine Yy0 (Yy10 y0 rfl (x:=.bool false) rfl ?_);show wpAny _ _ (field (.ref z) 3 >>= _) _ E s
 refine Yy0 (Yy10 y0 rfl (x:=.ref P) rfl (Yy0 (Y0l p0 rfl (Yy0 (m:=Builtin.SmallTypes.ownedTupleIsFree (.ref z)) ?_))));unfold Builtin.SmallTypes.ownedTupleIsFree;refine Yy0 (Yy10 y0 rfl (x:=.none) rfl (Yf ?_));simp only [Yy38];refine Yy0 (Y2p (Yy0 (Yy10 y0 rfl (x:=.ref O) rfl (Yy0 (Yy16 y0 (by simp) λg1 y1 w1=>Yy0 ?_)))))
 replace y1:IsZip g1 z P O .ellipsis:=y1
 simp only [Yy35,List.forIn_nil,List.zipIdx_cons,List.zipIdx_nil];refine Yy0 (Yy0 (Yy37 (Yy0 (m:=Builtin.SmallTypes.nextOf (.ref i)) ?_)));cases hx:xs[k]? with
 | none =>
  refine Zz58 hh (hi.extBut w1.extBut D.i1z) (hl.extBut w1.extBut D.l1z) hx λg2 e w2 hz0=>?_;obtain⟨oe,he,ce⟩:=hz0;have y2:IsZip g2 z P O .ellipsis:=w2 _ _ D.i1z.symm y1
  have ez:e≠z:=by rintro rfl;rw[y2]at he;cases he;simp at ce
  exact Yy16 y2 (by simp) λg3 _ w3=>q g3 e (λc o c1 _ c3 _ r=>w3.extBut _ _ c1 (w2 _ _ c3 (w1.extBut _ _ c1 r))) ⟨oe,w3.extBut _ _ ez he,ce⟩
 | some x =>
  have hu:us[m]?=none:=hE.resolve_left (by rw[hx];exact Option.some_ne_none x);refine Zy3 (hi.extBut w1.extBut D.i1z) (hl.extBut w1.extBut D.l1z) hx λg2 i2 w2=>Yf ?_;have o2:IsPair g2 O a b:=w2.extBut _ _ D.TOi1 (w1.extBut _ _ D.TOz o0)
  refine Yy0 (Y0l o2 rfl (Yy0 (Y2F o2 λg3 o3 w3=>Yy0 (Y1T (Yf ?_)))));refine Yy0 (Yy0 (Yy37 (Yy0 (m:=Builtin.SmallTypes.nextOf (.ref j)) ?_)));refine Zz58 hh (((hj.extBut w1.extBut D.i2z).extBut w2.extBut D.i12.symm).extBut w3.extBut D.TOi2.symm) (((ht.extBut w1.extBut D.l2z).extBut w2.extBut D.l2i1).extBut w3.extBut D.l2TO) hu λg4 e w4 hz0=>?_;obtain⟨oe,he,ce⟩:=hz0;have y4:IsZip g4 z P O .ellipsis:=w4 _ _ D.i2z.symm (w3.extBut _ _ D.TOz.symm (w2.extBut _ _ D.i1z.symm y1))
  have ez:e≠z:=by rintro rfl;rw[y4]at he;cases he;simp at ce
  exact Yy16 y4 (by simp) λg5 _ w5=>q g5 e (λc o c1 c2 c3 c4 r=>w5.extBut _ _ c1 (w4 _ _ c4 (w3.extBut _ _ c2 (w2.extBut _ _ c3 (w1.extBut _ _ c1 r))))) ⟨oe,w5.extBut _ _ ez he,ce⟩
theorem ZA3{x u a b:Value}{Q:Option Value->Shared->Prop}(D:ZipApart z P O i j l t)(y0:IsZip s.heap z P O .none)(p0:IsPair s.heap P (.ref i) (.ref j))(o0:IsPair s.heap O a b)
  (hi:s.heap.IsTupleIter i l k) (hj:s.heap.IsTupleIter j t m) (hl:s.heap.IsTuple l xs) (ht:s.heap.IsTuple t us) (hx:xs[k]?=some x) (hu:us[m]?=some u)
  (q:∀ h',IsZip h' z P O (rawInt s.heap.objs.size)->IsPair h' O x u->h'.IsTupleIter i l (k+1)->h'.IsTupleIter j t (m+1)->IsPair h' s.heap.objs.size x u->h'.objs.size=s.heap.objs.size+1 ->
   (∀ c o,c≠z->c≠O->c≠i->c≠j->s.heap.get? c=some o->h'.get? c=some o)->Q (some (.ref s.heap.objs.size)) { s with heap:=h' }):wpAny (model prog w) A (pyNext (.ref z)) Q E s:=by have ty:s.TypeIs (.ref z) "zip":=⟨_,y0,rfl⟩;unfold pyNext;refine Yy0 (Y1H (Y0g (name:=Str.ofString "__next__") ty Y2E (Y0m Y2E ty F.entry_zip_next ?_ (F.args_zip_next_1 _))));exact Za5 D y0 p0 o0 hi hj hl ht hx hu λh' b1 b2 b3 b4 b5 b6 b7=>Yf (q h' b1 b2 b3 b4 b5 b6 b7)
theorem ZR4{Q:Option Value->Shared->Prop}(hh:A.handled=none)(D:ZipApart z P O i j l t)(y0:IsZip s.heap z P O .none)(p0:IsPair s.heap P (.ref i) (.ref j))(o0:IsPair s.heap O a b)
  (hi:s.heap.IsTupleIter i l k) (hj:s.heap.IsTupleIter j t m) (hl:s.heap.IsTuple l xs) (ht:s.heap.IsTuple t us) (hE:xs[k]?=none\/us[m]?=none)
  (q:∀ h',(∀ c o,c≠z->c≠O->c≠i->c≠j->s.heap.get? c=some o->h'.get? c=some o)->Q none { s with heap:=h' }):wpAny (model prog w) A (pyNext (.ref z)) Q E s:=by have ty:s.TypeIs (.ref z) "zip":=⟨_,y0,rfl⟩;unfold pyNext;refine Yy0 (Y1H (Y0g (name:=Str.ofString "__next__") ty Y2E (Y0m Y2E ty F.entry_zip_next ?_ (F.args_zip_next_1 _))));refine Zz17 hh D y0 p0 o0 hi hj hl ht hE λh' e hk hz0=>?_;obtain⟨o,ho,co⟩:=hz0;exact Yy0 (Y2q (T:="StopIteration") (b:=true) ⟨o,ho,co⟩ isSubtype_stop (Yf (q _ hk)))
end
def zHT(h:Heap)(l t:Addr):Heap :=
 ((((h.push { cls:=.type "tuple_iterator",data:=.fields #[.ref l,.int 0 0] }).push { cls:=.type "tuple_iterator",data:=.fields #[.ref t,.int 0 0] }).push { cls:=.type "tuple",data:=.seq #[.ref h.objs.size,.ref (h.objs.size+1)] }).push { cls:=.type "tuple",data:=.seq #[.none,.none] }).push { cls:=.type "zip",data:=.fields #[.none,.bool false,.bool false,.ref (h.objs.size+2),.ref (h.objs.size+3)] }
theorem Zz07(l t:Addr)(xs us:Array Value) :
  Meets (Builtin.«zip.__new__» ⟨[.type "zip",.ref l,.ref t],[]⟩) (λ_ R s=>s.heap.IsTuple l xs/\s.heap.IsTuple t us/\R (.ok (.ret (.ref (s.heap.objs.size+4)))) { s with heap:=zHT s.heap l t }) :=
 .of_wp λprog w A R s h=>by
  obtain⟨hp,g,d,tk,os⟩:=s;obtain⟨hl,ht,h⟩:=h;have hsub:=sub_zip
  have f1:Heap.IsTuple (Shared.heap ⟨hp,g,d,tk,os⟩) l xs:=hl;have f2:Heap.IsTuple (Shared.heap ⟨hp.push { cls:=.type "tuple_iterator",data:=.fields #[.ref l,.int 0 0] },g,d,tk,os⟩) t us:=Heap.IsTuple.push ht _
  wp_walk using Y1D f1,Y1D f2
  refine⟨_,rfl,?_⟩;have e:∀(h:Heap) (o:Obj),(h.push o).objs.size=h.objs.size+1:=λh o=>Y0n ..
  simp only [e];exact h
def Zg13(K:Ad)(a b:Addr):It :=
 ⟨λi H=>∃ xs ys x y,SqT K H a xs/\SqT K H b ys/\xs[i]?=some x/\ys[i]?=some y,λi H v H'=>∃ T x y,H T=none/\v=.ref T/\H'=upd H T (.tup [x,y])/\(∀ xs,SqT K H a xs->xs[i]?=some x)/\∀ ys,SqT K H b ys->ys[i]?=some y,
  λi H=>∃ xs ys,SqT K H a xs/\SqT K H b ys/\(xs.length<=i\/ys.length<=i)⟩
theorem Zg5{P:Program}{w:World}{K:Ad}{elts:List Expr}{x1:Nat}{pos:Pos}(a b z TI TO i1 i2:Addr)(D:ZipApart z TI TO i1 i2 a b) :
  Turn P w K (.Tuple elts x1 pos) (Zg13 K a b) [z,TI,TO,i1,i2] z (λi h=>IsZip h z TI TO .none/\IsPair h TI (.ref i1) (.ref i2)/\(∃ c d,IsPair h TO c d)/\h.IsTupleIter i1 a i/\h.IsTupleIter i2 b i) where
 mem:=by simp
 obj:=λi h st c hc=>by
  obtain⟨hz,hTI,⟨u,v,hTO⟩,⟨o1,e1,_,d1⟩,⟨o2,e2,_,d2⟩⟩:=st;have hc':c=z\/c=TI\/c=TO\/c=i1\/c=i2:=by simpa using hc
  rcases hc' with rfl | rfl | rfl | rfl | rfl
  .exact⟨_,hz,λv q=>by have q':Data.fields _=Data.cell v:=q;cases q'⟩
  .exact⟨_,hTI,λv q=>by have q':Data.seq _ _=Data.cell v:=q;cases q'⟩
  .exact⟨_,hTO,λv q=>by have q':Data.seq _ _=Data.cell v:=q;cases q'⟩
  .exact⟨o1,e1,λv q=>by rw[d1]at q;cases q⟩
  .exact⟨o2,e2,λv q=>by rw[d2]at q;cases q⟩
 keep:=λi h h' st k=>by obtain⟨hz,hTI,⟨u,v,hTO⟩,h1,h2⟩:=st;exact⟨k z (by simp) _ hz,k TI (by simp) _ hTI,⟨u,v,k TO (by simp) _ hTO⟩,h1.at λo e=>k i1 (by simp) o e,h2.at λo e=>k i2 (by simp) o e⟩
 item:=by
  intro X hP hw hK hc i pins s σ H E I hf st hg;subst hP hw hK;obtain⟨xs,ys,x,y,hq,hq2,hx,hy⟩:=hg;obtain⟨hz,hTI,⟨u0,v0,hTO⟩,h1,h2⟩:=st;obtain⟨its,rv,p,_⟩:=I.tuple hq;obtain⟨u,hu,ru⟩:=rv.get hx;obtain⟨its2,rv2,p2,_⟩:=I.tuple hq2;obtain⟨v,hv,rv'⟩:=rv2.get hy;have fz:=hf z (by simp)
  have fTO:=hf TO (by simp);have fi1:=hf i1 (by simp)
  have fi2:=hf i2 (by simp);have hT0:H s.heap.objs.size=none:=I.hok.fresh (Yy6 _)
  refine ZA3 D hz hTI hTO h1 h2 (show s.heap.IsTuple a its.toArray from p) (show s.heap.IsTuple b its2.toArray from p2) (x:=u) (u:=v) (by simpa using hu) (by simpa using hv) λh' a1 a2 a3 a4 a5 hsz hk=>?_;have ltT:∀ b ob,s.heap.get? b=some ob->b≠s.heap.objs.size:=λb ob z=>Yo (Yh z)
  have ltH:∀ b ob,H b=some ob->b≠s.heap.objs.size:=λb ob z=>Yo (I.hok.lt z);have nof:∀ c ob,H c=some ob->c≠z/\c≠TO/\c≠i1/\c≠i2:=λc ob q=>⟨λe=>(by rw[e,fz.1]at q;cases q),λe=>(by rw[e,fTO.1]at q;cases q),λe=>(by rw[e,fi1.1]at q;cases q),λe=>(by rw[e,fi2.1]at q;cases q)⟩
  have hkc:∀ c o,c∉[z,TO,i1,i2]->s.heap.get? c=some o->h'.get? c=some o:=λc o hcx q=>hk c o (λe=>hcx (by simp[e])) (λe=>hcx (by simp[e])) (λe=>hcx (by simp[e])) (λe=>hcx (by simp[e])) q;have I1:Inv X pins σ (upd H s.heap.objs.size (.tup [x,y])) { s with heap:=h' }:=by
   refine I.step (g':=s.gens) (d':=s.drawn) (t':=s.toks) (ch:=[z,TO,i1,i2]) (λc hb=>?_) (λc o _ _ hcx q _=>hkc c o hcx q) (λc o _ _ hcx q _=>⟨o.slots,hkc c o hcx q⟩)
    (λc o _ q n=>by rwa[Zz9 (ltT c o q)]) (λc o hcx q=>⟨o,hkc c o hcx q⟩) (λc ys q=>by rwa[Zz9 (ltH c _ q)]) (λc o v q=>by rwa[Zz9 (ltH c _ q)])
    (λc ps q=>⟨#[],by rw[Zz9 (ltH c _ q),q];simp⟩) (λm hm=>?_) (λc v' q=>?_) I.bare
   .have hc':c=z\/c=TO\/c=i1\/c=i2:=by simpa using hb
    rcases hc' with rfl | rfl | rfl | rfl
    .exact⟨fz.2.2.2.1,fz.2.1,fz.2.2.2.2.1,fz.2.2.2.2.2⟩
    .exact⟨fTO.2.2.2.1,fTO.2.1,fTO.2.2.2.2.1,fTO.2.2.2.2.2⟩
    .exact⟨fi1.2.2.2.1,fi1.2.1,fi1.2.2.2.2.1,fi1.2.2.2.2.2⟩
    .exact⟨fi2.2.2.2.1,fi2.2.1,fi2.2.2.2.2.1,fi2.2.2.2.2.2⟩
   .obtain⟨o,es,ep,ho',r⟩:=hm;exact⟨o,es,ep,hk _ o (YR fz.2.1) (YR fTO.2.1) (YR fi1.2.1) (YR fi2.2.1) ho',r⟩
   .by_cases hb:c=s.heap.objs.size
    .subst hb;rw[Zz1]at q;cases q;exact⟨by show 2<=sizeLine;decide,[u,v],.cons ru (.cons rv' .nil),⟨_,a5,rfl,_,rfl⟩⟩
    .rw[Zz9 hb]at q;refine(I.hok c v' q).stay (λe w' hc' q'=>?_) (λe q=>by rwa[Zz9 (ltH e _ q)]) λe ys q=>by rwa[Zz9 (ltH e _ q)]
     rcases hc' with rfl | hc'
     .have:=nof e _ q
      exact hk e w' this.1 this.2.1 this.2.2.1 this.2.2.2 q'
     .have:=nof e _ hc'
      exact hk e w' this.1 this.2.1 this.2.2.1 this.2.2.2 q'
  refine⟨_,rfl,wpAny_letOwnedTupleGo_zip a1 λh2 hz2 hs2=>?_⟩;have fT:z≠s.heap.objs.size:=ltT z _ hz
  have I2:Inv X pins σ (upd H s.heap.objs.size (.tup [x,y])) { s with heap:=h2 }:=Inv.turned (s:={ s with heap:=h' }) (h':=h2) (t':=s.toks) (it:=z) I1 (λb o hb q=>hs2.extBut b o hb q) (by rw[Zz9 fT];exact fz.1) fz.2.1 fz.2.2.2.1 fz.2.2.2.2.1 fz.2.2.2.2.2;refine⟨.ref s.heap.objs.size,_,I2,rfl,⟨_,x,y,hT0,rfl,rfl,λys hy'=>by rw[I.tuple_inj hy' hq];exact hx,λys hy'=>by rwa[I.tuple_inj hy' hq2]⟩,
   ⟨hz2,hs2.extBut _ _ D.TIz (hkc _ _ (by have:=D.TIz;have:=D.TITO;have:=D.TIi1;have:=D.TIi2;simp;exact⟨D.TIz,D.TITO,D.TIi1,D.TIi2⟩) hTI),⟨u,v,hs2.extBut _ _ D.TOz a2⟩,a3.at λo q=>hs2.extBut i1 o D.i1z q,a4.at λo q=>hs2.extBut i2 o D.i2z q⟩,λc hc=>?_⟩
  have hc':c=z\/c=TI\/c=TO\/c=i1\/c=i2:=by simpa using hc
  have hn:=(hf c hc).1;rcases hc' with rfl | rfl | rfl | rfl | rfl
  .rw[Zz9 fT];exact hn
  .rw[Zz9 (ltT _ _ hTI)];exact hn
  .rw[Zz9 (ltT _ _ hTO)];exact hn
  .obtain⟨o,eo,_⟩:=h1;rwa[Zz9 (ltT _ o eo)]
  .obtain⟨o,eo,_⟩:=h2;rwa[Zz9 (ltT _ o eo)]
 done:=by
  intro X hP hw hK hc i pins s σ H E I hf st hg;subst hP hw hK;obtain⟨xs,ys,hq,hq2,hend⟩:=hg;obtain⟨hz,hTI,⟨u0,v0,hTO⟩,h1,h2⟩:=st;obtain⟨its,rv,p,_⟩:=I.tuple hq;obtain⟨its2,rv2,p2,_⟩:=I.tuple hq2;have l1:=rv.length
  have l2:=rv2.length;have fz:=hf z (by simp)
  have fTO:=hf TO (by simp);have fi1:=hf i1 (by simp)
  have fi2:=hf i2 (by simp);refine ZR4 (I.ok.hd hc) D hz hTI hTO h1 h2 (show s.heap.IsTuple a its.toArray from p) (show s.heap.IsTuple b its2.toArray from p2) (by
   rcases hend with e | e
   .exact .inl (by simp;lia)
   .exact .inr (by simp;lia)) λh' hk=>⟨rfl,?_⟩
  have hkc:∀ c o,c∉[z,TO,i1,i2]->s.heap.get? c=some o->h'.get? c=some o:=λc o hcx q=>hk c o (λe=>hcx (by simp[e])) (λe=>hcx (by simp[e])) (λe=>hcx (by simp[e])) (λe=>hcx (by simp[e])) q;have nof:∀ c ob,H c=some ob->c≠z/\c≠TO/\c≠i1/\c≠i2:=λc ob q=>⟨λe=>(by rw[e,fz.1]at q;cases q),λe=>(by rw[e,fTO.1]at q;cases q),λe=>(by rw[e,fi1.1]at q;cases q),λe=>(by rw[e,fi2.1]at q;cases q)⟩
  refine I.step (g':=s.gens) (d':=s.drawn) (t':=s.toks) (ch:=[z,TO,i1,i2]) (λc hb=>?_) (λc o _ _ hcx q _=>hkc c o hcx q) (λc o _ _ hcx q _=>⟨o.slots,hkc c o hcx q⟩)
   (λc o _ q n=>n) (λc o hcx q=>⟨o,hkc c o hcx q⟩) (λc ys q=>q) (λc o v q=>q)
   (λc ps q=>⟨#[],by rw[q];simp⟩) (λm hm=>?_) (λc v' q=>?_) I.bare
  .have hc':c=z\/c=TO\/c=i1\/c=i2:=by simpa using hb
   rcases hc' with rfl | rfl | rfl | rfl
   .exact⟨fz.2.2.2.1,fz.2.1,fz.2.2.2.2.1,fz.2.2.2.2.2⟩
   .exact⟨fTO.2.2.2.1,fTO.2.1,fTO.2.2.2.2.1,fTO.2.2.2.2.2⟩
   .exact⟨fi1.2.2.2.1,fi1.2.1,fi1.2.2.2.2.1,fi1.2.2.2.2.2⟩
   .exact⟨fi2.2.2.2.1,fi2.2.1,fi2.2.2.2.2.1,fi2.2.2.2.2.2⟩
  .obtain⟨o,es,ep,ho',r⟩:=hm;exact⟨o,es,ep,hk _ o (YR fz.2.1) (YR fTO.2.1) (YR fi1.2.1) (YR fi2.2.1) ho',r⟩
  .refine(I.hok c v' q).stay (λe w' hc' q'=>?_) (λe q=>q) λe ys q=>q;rcases hc' with rfl | hc'
   .have:=nof e _ q
    exact hk e w' this.1 this.2.1 this.2.2.1 this.2.2.2 q'
   .have:=nof e _ hc'
    exact hk e w' this.1 this.2.1 this.2.2.1 this.2.2.2 q'
 self:=λ_ _ _ _ _ st h=>Y1U st.1 h
def ItzB(K:Ad)(kd:Bool)(a b:Addr):It:=match kd with
 | false=>Itz K a b
 | true=>Zg13 K a b
def ZF13(K:Ad)(ta:TA):TI:=λσ H R=>ta σ H λvs H1=>∃ a b kd,vs=[.ref a,.ref b]/\(∃ xs ys,My.SqK kd K H1 a xs/\My.SqK kd K H1 b ys)/\R (ItzB K kd a b) H1
section
variable{prog:Program}{w:World}{A:Around}{E:Ae}{s:Shared}
theorem ZS6{Q:Ae}(hl:s.heap.IsTuple l xs)(ht:s.heap.IsTuple t us)
  (q:∀ h',IsZip h' (s.heap.objs.size+4) (s.heap.objs.size+2) (s.heap.objs.size+3) .none->IsPair h' (s.heap.objs.size+2) (.ref s.heap.objs.size) (.ref (s.heap.objs.size+1))->IsPair h' (s.heap.objs.size+3) .none .none ->
   h'.IsTupleIter s.heap.objs.size l 0->h'.IsTupleIter (s.heap.objs.size+1) t 0->(∀ c o,s.heap.get? c=some o->h'.get? c=some o)->Q (.ref (s.heap.objs.size+4)) { s with heap:=h' }) :
  wpAny (model prog w) A (call (.type "zip") [.ref l,.ref t]) Q E s:=by
 refine callType_new F.called_zip (by decide) (F.typeCall_zip_2 _ _) (F.newCall_zip_2 _ _) (λo=>F.args_object_init_3 o _ _) F.entry_zip_new (Zz07 l t xs us) ⟨hl,ht,?_⟩;obtain⟨h,eh⟩:∃ h,h=s.heap:=⟨_,rfl⟩;rw[<- eh]at q ⊢;have at':∀(g:Heap) (o:Obj) (n:Nat),g.objs.size=n->o.isFreed=false->(g.push o).get? n=some o:=λg o n e ho=>by subst e;exact Yj _ ho
 have sz:∀(g:Heap) (o:Obj) (n:Nat),g.objs.size=n->(g.push o).objs.size=n+1:=λg o n e=>by rw[Y0n,e]
 have up:∀(g:Heap) (o o':Obj) (c:Addr),g.get? c=some o->(g.push o').get? c=some o:=λg o o' c e=>Yy4 _ e;have g0:(zHT h l t).get? h.objs.size=some { cls:=.type "tuple_iterator",data:=.fields #[.ref l,.int 0 0] }:=up _ _ _ _ (up _ _ _ _ (up _ _ _ _ (up _ _ _ _ (at' _ _ _ rfl rfl))))
 have g1:(zHT h l t).get? (h.objs.size+1)=some { cls:=.type "tuple_iterator",data:=.fields #[.ref t,.int 0 0] }:=up _ _ _ _ (up _ _ _ _ (up _ _ _ _ (at' _ _ _ (sz _ _ _ rfl) rfl)));have g2:IsPair (zHT h l t) (h.objs.size+2) (.ref h.objs.size) (.ref (h.objs.size+1)):=up _ _ _ _ (up _ _ _ _ (at' _ _ _ (sz _ _ _ (sz _ _ _ rfl)) rfl))
 have g3:IsPair (zHT h l t) (h.objs.size+3) .none .none:=up _ _ _ _ (at' _ _ _ (sz _ _ _ (sz _ _ _ (sz _ _ _ rfl))) rfl);have g4:IsZip (zHT h l t) (h.objs.size+4) (h.objs.size+2) (h.objs.size+3) .none:=at' _ _ _ (sz _ _ _ (sz _ _ _ (sz _ _ _ (sz _ _ _ rfl)))) rfl
 exact⟨⟨_,g4,rfl⟩,q _ g4 g2 g3 ⟨_,g0,rfl,rfl⟩ ⟨_,g1,rfl,rfl⟩ λc o e=>up _ _ _ _ (up _ _ _ _ (up _ _ _ _ (up _ _ _ _ (up _ _ _ _ e))))⟩
end
section
variable{X:Cx}
theorem ZM10 (K:Ad) {elts:List Expr} {x1:Nat} {tpos:Pos} {e f:Expr} {ta:TA} {p pos:Pos} (hg:Gl X "zip") (hm:X.mg "zip"=none) (ha:PA X [e,f] ta) (hs:starEach [e,f] X.env=(false,eval e X.env) :: starEach [f] X.env:=by rfl) (hpl:(backTo pos (starEach [f] X.env)).any (·.1)=false:=by rfl) (hk:X.K=K:=by rfl) :
  PI X (.Tuple elts x1 tpos) (.Call (.Name "zip" p) [e,f] [] pos) (ZF13 K ta):=by
 subst hk;intro pins s σ H R I h;refine Call_ (Zz62 I hg hm Boot.«zip» (Y0c (thn (ha pos pins s σ H _ I h) λus s1 hz0=>?_) hs hpl));obtain⟨vs,H1,I1,r1,q1⟩:=hz0;obtain⟨a,b,kd,ev,⟨xs,ys,hq,hq2⟩,q⟩:=q1;subst ev;obtain⟨u,u',rfl,ru,ru'⟩:=Zz012 r1;obtain rfl:u=Value.ref a:=ru;obtain rfl:u'=Value.ref b:=ru';have key:∀ n x y:Nat,x<n->y<n->ZipApart (n+4) (n+2) (n+3) n (n+1) x y:=λn x y h1 h2=>by constructor <;> (intro q;have q':(_:Nat)=_:=q;lia)
 have hfr:∀ c∈[s1.heap.objs.size+4,s1.heap.objs.size+2,s1.heap.objs.size+3,s1.heap.objs.size,s1.heap.objs.size+1],s1.heap.objs.size<=c:=λc hc=>by
  have hc':c=s1.heap.objs.size+4\/c=s1.heap.objs.size+2\/c=s1.heap.objs.size+3\/c=s1.heap.objs.size\/c=s1.heap.objs.size+1:=by simpa using hc
  rcases hc' with e | e | e | e | e <;> rw[e] <;> first | exact Yy6 _ | exact Y2c _ _
 cases kd with
 | false =>
  obtain⟨its,rv,pl,_⟩:=I1.list hq;have lt1:a<s1.heap.objs.size:=let ⟨_,_,e,_⟩:=pl;Yh e
  obtain⟨its2,rv2,pl2,_⟩:=I1.list hq2;have lt2:b<s1.heap.objs.size:=let ⟨_,_,e,_⟩:=pl2;Yh e
  have D:=key _ _ _ lt1 lt2;refine call_zip_2 pl.isList pl2.isList λh' hz hTI hTO hi1 hi2 hsz hk=>?_;refine Y1U (s:={ s1 with heap:=h' }) hz ?_;exact⟨s1.heap.objs.size+4,[s1.heap.objs.size+4,s1.heap.objs.size+2,s1.heap.objs.size+3,s1.heap.objs.size,s1.heap.objs.size+1],_,_,H1,rfl,I1.kept (t':=s1.toks) hk,Zh5 a b _ _ _ _ _ D,⟨hz,hTI,⟨_,_,hTO⟩,hi1,hi2⟩,λc hc=>I1.fpOk (hfr c hc) (I1.hok.fresh (hfr c hc)),q⟩
 | true =>
  obtain⟨its,rv,pl,_⟩:=I1.tuple hq;have pA:s1.heap.IsTuple a its.toArray:=pl
  have lt1:a<s1.heap.objs.size:=let ⟨_,e,_⟩:=pA;Yh e
  obtain⟨its2,rv2,pl2,_⟩:=I1.tuple hq2;have pT:s1.heap.IsTuple b its2.toArray:=pl2
  have lt2:b<s1.heap.objs.size:=let ⟨_,e,_⟩:=pT;Yh e
  have D:=key _ _ _ lt1 lt2;refine ZS6 pA pT λh' hz hTI hTO hi1 hi2 hk=>?_;refine Y1U (s:={ s1 with heap:=h' }) hz ?_;exact⟨s1.heap.objs.size+4,[s1.heap.objs.size+4,s1.heap.objs.size+2,s1.heap.objs.size+3,s1.heap.objs.size,s1.heap.objs.size+1],_,_,H1,rfl,I1.kept (t':=s1.toks) hk,Zg5 a b _ _ _ _ _ D,⟨hz,hTI,⟨_,_,hTO⟩,hi1,hi2⟩,λc hc=>I1.fpOk (hfr c hc) (I1.hok.fresh (hfr c hc)),q⟩
end
end L2
namespace My
open PySem L2
theorem ItzB.go{i:Nat}{x y:V}(h1:SqK kd K H a xs)(h2:SqK kd K H b ys)(hx:xs[i]?=some x)(hy:ys[i]?=some y):(ItzB K kd a b).go i H:=by cases kd <;> exact⟨xs,ys,x,y,h1,h2,hx,hy⟩
theorem ItzB.stop{i:Nat}(h1:SqK kd K H a xs)(h2:SqK kd K H b ys)(h:xs.length<=i):(ItzB K kd a b).stop i H:=by cases kd <;> exact⟨xs,ys,h1,h2,.inl h⟩
theorem ItzB.yld{i:Nat}{H H':Hp}{v:V}(h1:SqK kd K H a xs)(h2:SqK kd K H b ys)(h:(ItzB K kd a b).yld i H v H'):∃ T x y,H T=none/\v=.ref T/\H'=upd H T (.tup [x,y])/\xs[i]?=some x/\ys[i]?=some y:=by
 cases kd with
 | false =>
  obtain⟨T,x,y,a1,a2,a3,a4,a5⟩:=h;exact⟨T,x,y,a1,a2,a3,a4 _ h1,a5 _ h2⟩
 | true =>
  obtain⟨T,x,y,a1,a2,a3,a4,a5⟩:=h;exact⟨T,x,y,a1,a2,a3,a4 _ h1,a5 _ h2⟩
section
variable{K:Ad}{kd:Bool}{a b:Addr}{xs ys:List V}{g:TG}{tt:TT}{te:TE}{o:Nat}{fr:List Nat}{σ:St}{H:Hp}{Q:VK}
theorem Ze11(Pv:Nat->List V->Hp->Prop)(h0:Pv 0 [] H)(hxy:xs.length=ys.length)(hz:xs.length<sizeLine)(hl:∀ i zs H,i<=xs.length->Pv i zs H->SqK kd K H a xs/\SqK kd K H b ys/\zs.length<=i)
  (hs:∀(i:Nat) x y zs H (p:Addr),H p=none->xs[i]?=some x->ys[i]?=some y->Pv i zs H->ZS3 Pv g tt te o fr σ i (.ref p) zs (upd H p (.tup [x,y]))) (hd:∀ zs H,Pv xs.length zs H->∀ p,H p=none->Q (.ref p) (upd H p (.lst zs))):LcR (ItzB K kd a b) g tt te o fr σ H Q:=by
 refine⟨λi m zs H=>m=xs.length - i/\i<=xs.length/\Pv i zs H,⟨xs.length,by simp,Yl _,h0⟩,?_⟩;rintro i m zs H ⟨rfl,hi,p⟩;obtain⟨q,q2,hy⟩:=hl i zs H hi p;by_cases hlt:i<xs.length
 .refine .inr ⟨ItzB.go q q2 (Yy2 hlt) (Yy2 (by lia)),by lia,λx H' hyl=>?_⟩;obtain⟨T,u,v,hT,ex,eH,hu,hv⟩:=ItzB.yld q q2 hyl;subst ex eH;exact hs i u v zs H T hT hu hv p (λj zs H=>∃ m',m'<xs.length - i/\m'=xs.length - j/\j<=xs.length/\Pv j zs H) λzs H p'=>⟨xs.length - (i+1),by grind,rfl,hlt,p'⟩
 .have e:i=xs.length:=by lia
  subst e;exact .inl ⟨ItzB.stop q q2 (Yy6 _),by lia,hd zs H p⟩
end
end My
namespace L2
open PySem PySem.Spec PyProof.Rows
section
theorem isTup_tuple(p:IsTup h a us):h.IsTuple a us:=by obtain⟨o,e,c,n,d⟩:=p;exact⟨o,e,c,n,d⟩
end
end L2
namespace HT
open PySem PyProof.Rows
section
open PySem.SeqAt
open PySem.AutoSeq1 (wpAny_loadPart')
open PySem.MeetsSeq PySem.MeetsSeq2 PySem.MeetsSeq3
theorem Zj5(l b:Addr)(xs ys:Array Value)(n n2:Nat)(dd dd2:Option Addr)(sl sl2:Array (Option Value))(d:Nat)(r:Bool)(hd0:d<=min xs.size ys.size) :
  Meets (Builtin.«tuple.__lt__» ⟨[.ref l,.ref b],[]⟩)
   (λA R s=>s.heap.get? l=some { cls:=.type "tuple",dict:=dd,data:=.seq xs n,slots:=sl }/\s.heap.get? b=some { cls:=.type "tuple",dict:=dd2,data:=.seq ys n2,slots:=sl2 } /\
    (∀ j (h1:j<xs.size) (h2:j<ys.size),j<=d->EqAt A.in1 s xs[j] ys[j] (decide (j≠d))) /\
    (∀(h1:d<xs.size) (h2:d<ys.size) (prog:Program) (w:World) (E:Ae) (Q:Ae),Q (.bool r) s->wpAny (model prog w) A.in1 (richCompare .Lt xs[d] ys[d]) Q E s) /\
    (d=min xs.size ys.size->r=decide (xs.size<ys.size))/\R (.ok (.ret (.bool r))) s) :=
 .of_wp λprog w A R s h=>by
  obtain⟨hp,g,d1,tk,os⟩:=s;obtain⟨hl,hb,he,hlt,hfin,h⟩:=h;have f2:=AutoSeq1.sub_tuple_tuple
  have hZ:(xs.toList.zip ys.toList).length=min xs.size ys.size:=by simp
  wp_walk using Y0Z hl,Y0Z hb,wpAny_forIn_list _ (λrest b s'=>b.1=none/\s'=⟨hp,g,d1,tk,os⟩/\∃ i,i<=d/\rest=(xs.toList.zip ys.toList).drop i) _
  case turn =>
   rintro⟨y,x⟩ rest b s' ⟨hb',rfl,i,hid,hz⟩;have hi:i<(xs.toList.zip ys.toList).length:=by
    rcases Nat.lt_or_ge i (xs.toList.zip ys.toList).length with q | q
    .exact q
    .rw[List.drop_of_length_le q]at hz;cases hz
   have hm:i<min xs.size ys.size:=hZ ▸ hi;have h1:i<xs.size:=Ym hm (Nat.min_le_left _ _)
   have h2:i<ys.size:=Ym hm (Nat.min_le_right _ _);rw[Y3b hi]at hz;injection hz with hyx hrest
   have hy:y=xs[i]:=by have:=YZ Prod.fst hyx;simpa using this
   have hx:x=ys[i]:=by have:=YZ Prod.snd hyx;simpa using this
   subst hy hx;refine Yy0 (he i h1 h2 hid prog w _ _ ?_);by_cases c:i=d
   .subst c;rw[YT (by simp)];have hri:=hlt h1 h2 prog w
    wp_walk using hri
    exact⟨_,rfl,by simpa using h⟩
   .rw[Yt c]
    wp_walk
    exact⟨rfl,rfl,i+1,by omega,hrest⟩
  case fin =>
   rintro⟨b1,b2⟩ s' ⟨hb',rfl,i,hid,hz⟩;simp only at hb';subst hb';have hge:min xs.size ys.size<=i:=by
    rcases Nat.lt_or_ge i (xs.toList.zip ys.toList).length with q | q
    .rw[Y3b q]at hz;cases hz
    .exact hZ ▸ q
   rw[hfin (by omega)]at h
   wp_walk
   exact⟨_,rfl,by simpa [Builtin.Tuple.tupleCompareSizes] using h⟩
  case h=>exact⟨rfl,rfl,0,Yl _,rfl⟩
end
section
variable{prog:Program}{w:World}{A:Around}{E:Ae}{s:Shared}
theorem ZD3{d:Nat}{r:Bool}{Q:Ae}(hl:IsTup s.heap l xs)(hb:IsTup s.heap b ys)(hd0:d<=min xs.size ys.size)(hu:A.units<cLine)
  (he:∀ j (h1:j<xs.size) (h2:j<ys.size),j<=d->SeqAt.EqAt A.in1 s xs[j] ys[j] (decide (j≠d)))
  (hlt:∀(h1:d<xs.size) (h2:d<ys.size) (prog:Program) (w:World) (E:Ae) (Q:Ae),Q (.bool r) s->wpAny (model prog w) A.in1 (richCompare .Lt xs[d] ys[d]) Q E s)
  (hfin:d=min xs.size ys.size->r=decide (xs.size<ys.size)) (h:Q (.bool r) s):wpAny (model prog w) A (compareOp .Lt (.ref l) (.ref b)) Q E s:=by
 obtain⟨⟨cls,dd,data,sl⟩,ho,hc,n,hd⟩:=id hl;obtain⟨⟨cls2,dd2,data2,sl2⟩,ho2,hc2,n2,hd2⟩:=id hb;simp only at hc hd hc2 hd2;subst hc hd hc2 hd2;exact richCompare_meets_room (op:=.Lt) ⟨_,ho,rfl⟩ ⟨_,ho2,rfl⟩ Y3z Y3v (Y3n _ _) (Zj5 l b xs ys n n2 dd dd2 sl sl2 d r hd0)
  ⟨ho,ho2,he,hlt,hfin,show Value.bool r≠Value.notImplemented/\Q (.bool r) s from⟨(λx=>nomatch x),h⟩⟩ hu
theorem Zu4(hl:IsTup s.heap l xs)(hb:IsTup s.heap b ys)(hi:IntsAre xs.toList ns)(hj:IntsAre ys.toList ms)(hu:A.units<cLine):SeqAt.EqAt A s (.ref l) (.ref b) (decide (ns=ms)):=by
 have z1:xs.size=ns.length:=by rw[<- hi.length];simp
 have z2:ys.size=ms.length:=by rw[<- hj.length];simp
 by_cases hab:l=b
 .subst hab;obtain⟨o1,e1,_,n1,d1⟩:=hl;obtain⟨o2,e2,_,n2,d2⟩:=hb;rw[e1]at e2;cases e2;rw[d1]at d2;cases d2;have en:ns=ms:=L2.ints_uniq hi hj
  rw[Yt en];exact Y2C _
 .have k:=SeqAt.RcAt.tuples (A:=A) (s:=s) (e:=λj=>ns.getD j 0 == ms.getD j 0) (L2.isTup_tuple hl) (L2.isTup_tuple hb) hu λj h1 h2=>by obtain⟨t,ea⟩:=IntsAre.int_at hi j xs[j] (by simp[h1]);obtain⟨u,ec⟩:=IntsAre.int_at hj j ys[j] (by simp[h2]);rw[ea,ec];exact Yy18 _ _ _ _
  have e:((List.range (min xs.size ys.size)).all (λj=>ns.getD j 0 == ms.getD j 0) && xs.size == ys.size)=decide (ns=ms):=by
   rw[z1,z2,Y0M,Y0r,Y0q,YH];constructor
   .rintro⟨q1,q2⟩;have q2:ns.length=ms.length:=by simpa using q2
    refine Y0F λj=>?_;by_cases c:j<ns.length
    .have:=q1 j (YG.mpr (by grind))
     rw[Yy7,Yy7,Yy2 c,Yy2 (by lia)]at this
     have:=eq_of_beq this
     rw[Yy2 c,Yy2 (by omega)];exact YZ some this
    .rw[YJ (by lia),YJ (by lia)]
   .rintro rfl;exact⟨λj _=>by simp,by simp⟩
  rw[e]at k;exact Y2a hab k
def ltP(x y:Int × Ac):Bool:=decide (x.1<y.1) || (decide (x.1=y.1) && lexLt x.2 y.2)
theorem lt_pair{a c:Int}{t u:Tok}{r1 r2:Ag}{Q:Ae}(hl:IsTup s.heap l (.int a t :: .ref p :: r1).toArray)(hb:IsTup s.heap b (.int c u :: .ref q :: r2).toArray)
  (hp:IsTup s.heap p xs) (hq:IsTup s.heap q ys) (hi:IntsAre xs.toList ns) (hj:IntsAre ys.toList ms) (hr:a=c->ns=ms->r1=[]/\r2=[]) (hu:A.units+2<cLine) (h:Q (.bool (ltP (a,ns) (c,ms))) s):wpAny (model prog w) A (compareOp .Lt (.ref l) (.ref b)) Q E s:=by
 have u1:A.units<cLine:=by lia
 have u2:A.in1.units<cLine:=by show A.units+1<cLine;omega
 by_cases c1:a=c
 .subst c1;by_cases c2:ns=ms
  .obtain⟨rfl,rfl⟩:=hr rfl c2;have e:ltP (a,ns) (a,ms)=false:=by
    subst c2;show(decide (a<a) || (decide (a=a) && lexLt ns ns))=false
    rw[My.lex_irrefl];simp
   refine ZD3 (d:=2) (r:=ltP (a,ns) (a,ms)) hl hb (by simp) u1 (λj h1 h2 hj'=>?_) (λh1=>absurd h1 (by simp)) (λ_=>by rw[e];simp) h
   match j,h1,h2,hj' with
   | 0,_,_,_=>exact(show SeqAt.EqAt A.in1 s (.int a t) (.int a u) true from by have:=Yy18 (A:=A.in1) (s:=s) a t a u;simpa using this)
   | 1,_,_,_=>exact(show SeqAt.EqAt A.in1 s (.ref p) (.ref q) true from by have:=Zu4 (A:=A.in1) hp hq hi hj u2;rwa [Yt c2]at this)
   | j+2,h1,_,_=>exact absurd h1 (by simp)
  .have e:ltP (a,ns) (a,ms)=lexLt ns ms:=by
    show(decide (a<a) || (decide (a=a) && lexLt ns ms))=_
    simp
   rw[e]at h;refine ZD3 (d:=1) (r:=lexLt ns ms) hl hb (by simp) u1 (λj h1 h2 hj'=>?_) (λh1 h2 prog w E Q hq'=>?_) (λz=>absurd z (by simp)) h
   .match j,h1,h2,hj' with
    | 0,_,_,_=>exact(show SeqAt.EqAt A.in1 s (.int a t) (.int a u) true from by have:=Yy18 (A:=A.in1) (s:=s) a t a u;simpa using this)
    | 1,_,_,_=>exact(show SeqAt.EqAt A.in1 s (.ref p) (.ref q) false from by have:=Zu4 (A:=A.in1) hp hq hi hj u2;rwa [YT c2]at this)
    | j+2,_,_,z=>lia
   .exact(show wpAny (model prog w) A.in1 (compareOp .Lt (.ref p) (.ref q)) Q E s from Zz06 hp hq hi hj u2 hq')
 .have e:ltP (a,ns) (c,ms)=decide (a<c):=by
   show(decide (a<c) || (decide (a=c) && lexLt ns ms))=_
   simp[c1]
  rw[e]at h;refine ZD3 (d:=0) (r:=decide (a<c)) hl hb (Yl _) u1 (λj h1 h2 hj'=>?_) (λh1 h2 prog w E Q hq'=>?_) (λz=>absurd z (by simp)) h
  .match j,h1,h2,hj' with
   | 0,_,_,_=>exact(show SeqAt.EqAt A.in1 s (.int a t) (.int c u) false from by have:=Yy18 (A:=A.in1) (s:=s) a t c u;rwa [show(a == c)=false by simpa using c1]at this)
   | j+1,_,_,z=>lia
  .exact ZB5 A.in1 s a t c u prog w E Q hq'
end
theorem ltP_irrefl(x:Int × Ac):ltP x x=false:=by
 show(decide (x.1<x.1) || (decide (x.1=x.1) && lexLt x.2 x.2))=false
 rw[My.lex_irrefl];simp
theorem ltP_iff:ltP x y=true↔x.1<y.1\/(x.1=y.1/\lexLt x.2 y.2=true):=by unfold ltP;simp
theorem ltP_trans(h1:ltP x y=true)(h2:ltP y z=true):ltP x z=true:=by
 rw[ltP_iff]at h1 h2 ⊢;rcases h1 with a | ⟨a,b⟩
 .rcases h2 with c | ⟨c,d⟩
  .exact .inl (by omega)
  .exact .inl (by lia)
 .rcases h2 with c | ⟨c,d⟩
  .exact .inl (by lia)
  .exact .inr ⟨by lia,My.lex_trans b d⟩
end HT
namespace My
open PySem L2
theorem best_leastG{lt:Nat->Nat->Bool}(hi:∀ i,lt i i=false)(ht:∀ i j k,lt i j=true->lt j k=true->lt i k=true):∀ j i,i<=j->lt i (argBest lt j)=false
 | 0,i,h=>by
  have:i=0:=by lia
  subst this;exact hi _
 | j+1,i,h=>by
  have ih:=best_leastG hi ht j;unfold argBest;cases hb:lt (j+1) (argBest lt j) with
  | true =>
   rw[if_pos rfl];by_cases e:i=j+1
   .subst e;exact hi _
   .cases hc:lt i (j+1) with
    | false=>rfl
    | true =>
     have:=ih i (by lia)
     rw[ht _ _ _ hc hb]at this;cases this
  | false =>
   rw[if_neg (by simp)];by_cases e:i=j+1
   .subst e;exact hb
   .exact ih i (by omega)
end My
namespace L2
open PySem PySem.Spec PyProof.Rows
section
variable{prog:Program}{w:World}{A:Around}{I S:Addr}{fp wr:List Addr}{n:Nat}{P:Nat->Value->Prop}{St:Nat->Heap->Prop}{R:Result->Shared->Prop}
theorem Zh7(W:Walks prog w A.in1 I fp wr n P St)(lt:Nat->Nat->Bool)(C:Heap->Prop)(ck:∀ h h',C h->(∀ b o,b≠S->b∉wr->h.get? b=some o->h'.get? b=some o)->C h')(cc:∀(s:Shared) (i j:Nat) (v u:Value) (E:Ae) (Q:Ae),C s.heap->i≠j->P i v->P j u->Q (.bool (lt i j)) s->wpAny (model prog w) A.in1 (compareOp .Lt v u) Q E s)(hSf:S∉fp):∀(k j:Nat) (s:Shared) (vb:Value) (c:Nat),n - (j+1)=k->j+1<=n->St (j+1) s.heap->P (argBest lt j) vb->C s.heap ->
  s.heap.get? S=some { cls:=.type "list",dict:=none,data:=.seq #[vb,vb] c,slots:=#[] } ->
  (∀ v h' tk,P (argBest lt (n - 1)) v->(∀ b o,b≠S->b∉wr->s.heap.get? b=some o->h'.get? b=some o)->R (.ok (.ret v)) { s with heap:=h',toks:=tk }) ->
  codeAny (model prog w) A (.builtin "min.loop" ⟨[.ref I,.none,.ref S],[]⟩) R s:=by
 have hSw:S∉wr:=λh=>hSf (W.sub _ h);have nm:(toString "min"++toString ".loop":String)="min.loop":=by decide
 intro k
 induction k with
 | zero =>
  intro j s vb c hk hj st pb ta hS hR;have ej:j+1=n:=by grind
  refine Yy01 Y3x ?_;rw[Y0s Yy14 _];show wpAny _ A.in1 (seqItems? (.ref S) >>= _) _ _ s
  refine Yy0 (Y0l hS rfl ?_);show wpAny _ A.in1 (tryCatch (pyNext (.ref I)) _ >>= _) _ _ s
  refine Yy0 (Y2N (W.done s _ _ (ej ▸ st) λh' tk hk'=>?_));have hS':=hk' S _ hSw hS
  show wpAny _ A.in1 (updateSeq S (λ_=>#[]) >>= _) _ _ _;refine Yy0 (Y2A hS' rfl (Yy0 (Y1T (Yf ?_))));exact hR vb _ tk (by rwa[<- ej]) λb o b1 b2 e=>(YN _ _ (YR b1)).trans (hk' b o b2 e)
 | succ k ih =>
  intro j s vb c hk hj st pb ta hS hR;have hlt:j+1<n:=by omega
  refine Yy01 Y3x ?_;rw[Y0s Yy14 _];show wpAny _ A.in1 (seqItems? (.ref S) >>= _) _ _ s
  refine Yy0 (Y0l hS rfl ?_);show wpAny _ A.in1 (tryCatch (pyNext (.ref I)) _ >>= _) _ _ s
  refine Yy0 (Y2N (W.item (j+1) s _ _ hlt st λv h' tk pv st' hk'=>?_));have hS':=hk' S _ hSw hS
  have ta':=ck _ h' ta λb o _ b2 e=>hk' b o b2 e;show wpAny _ A.in1 (tryCatch (holding [v,v] (richCompare .Lt (v) (vb) >>= _)) _ >>= _) _ _ _
  refine Yy0 (Y2N (Y0D (Yy0 (show wpAny _ _ (compareOp .Lt (v) (vb)) _ _ _ from cc { s with heap:=h',toks:=tk } (j+1) _ v vb _ _ ta' (Y0u (Nat.lt_succ_of_le (My.best_le _ _))) pv pb ?_))));refine Yy0 (Y0D (Y0N ?_));refine Yy0 (Y1T (Yf ?_));cases hb:lt (j+1) (argBest lt j) with
  | true =>
   simp only [Yy38];refine Yy0 (Y2A hS' rfl (Yy0 (Y1T ?_)));rw[nm];have up:∀ b o,b≠S->h'.get? b=some o->(h'.update S (Obj.mapSeq λ_=>#[v,v])).get? b=some o:=λb o b1 e=>(YN _ _ (YR b1)).trans e
   refine Yf ⟨Yy11 Yy14 _,ih (j+1) _ (v) _ (by omega) hlt (W.frame _ h' _ st' λb hbf o e=>up b o (λh=>hSf (h ▸ hbf)) e) ?_ (ck _ _ ta' λb o b1 _ e=>up b o b1 e) (Yy00 _ hS' rfl) λv' h'' tk'' p'' k''=>?_⟩
   .unfold argBest;rw[if_pos hb];exact pv
   .exact hR v' h'' tk'' p'' λb o b1 b2 e=>k'' b o b1 b2 (up b o b1 (hk' b o b2 e))
  | false =>
   simp only [Y2z,if_false];refine Yy0 (Y1T ?_);rw[nm];refine Yf ⟨Yy11 Yy14 _,ih (j+1) _ (vb) c (by omega) hlt st' ?_ ta' hS' λv' h'' tk'' p'' k''=>?_⟩
   .unfold argBest;rwa[if_neg (by rw[hb];decide)]
   .exact hR v' h'' tk'' p'' λb o b1 b2 e=>k'' b o b1 b2 (hk' b o b2 e)
theorem ZS5 (W:Walks prog w A.in1 I fp wr n P St) (lt:Nat->Nat->Bool) (C:Heap->Prop) (ck:∀ h h',C h->(∀ b o,b≠S->b∉wr->h.get? b=some o->h'.get? b=some o)->C h') (cc:∀(s:Shared) (i j:Nat) (v u:Value) (E:Ae) (Q:Ae),C s.heap->i≠j->P i v->P j u->Q (.bool (lt i j)) s->wpAny (model prog w) A.in1 (compareOp .Lt v u) Q E s) (hSf:S∉fp) (hn:0<n) {c:Nat} (st:St 0 s.heap) (ta:C s.heap) (hS:s.heap.get? S=some { cls:=.type "list",dict:=none,data:=.seq #[] c,slots:=#[] })
  (hR:∀ v h' tk,P (argBest lt (n - 1)) v->(∀ b o,b≠S->b∉wr->s.heap.get? b=some o->h'.get? b=some o)->R (.ok (.ret v)) { s with heap:=h',toks:=tk }) :
  codeAny (model prog w) A (.builtin "min.loop" ⟨[.ref I,.none,.ref S],[]⟩) R s:=by
 have hSw:S∉wr:=λh=>hSf (W.sub _ h);have nm:(toString "min"++toString ".loop":String)="min.loop":=by decide
 refine Yy01 Y3x ?_;rw[Y0s Yy14 _];show wpAny _ A.in1 (seqItems? (.ref S) >>= _) _ _ s
 refine Yy0 (Y0l hS rfl ?_);show wpAny _ A.in1 (tryCatch (pyNext (.ref I)) _ >>= _) _ _ s
 refine Yy0 (Y2N (W.item 0 s _ _ hn st λv h' tk pv st' hk'=>?_));have hS':=hk' S _ hSw hS
 show wpAny _ A.in1 (updateSeq S (λ_=>#[v,v]) >>= _) _ _ _;refine Yy0 (Y2A hS' rfl ?_);rw[nm];have up:∀ b o,b≠S->h'.get? b=some o->(h'.update S (Obj.mapSeq λ_=>#[v,v])).get? b=some o:=λb o b1 e=>(YN _ _ (YR b1)).trans e
 refine Yf ⟨Yy11 Yy14 _,Zh7 W lt C ck cc hSf _ 0 _ v _ rfl hn (W.frame _ h' _ st' λb hbf o e=>up b o (λh=>hSf (h ▸ hbf)) e) pv (ck _ _ ta λb o b1 b2 e=>up b o b1 (hk' b o b2 e)) (Yy00 _ hS' rfl) λv' h'' tk'' p'' k''=>?_⟩;exact hR v' h'' tk'' p'' λb o b1 b2 e=>k'' b o b1 b2 (up b o b1 (hk' b o b2 e))
end
section
variable{X:Cx}
theorem ZL1(r:Vals (x :: xs) us):∃ u vs,us=u :: vs/\RelV x u/\Vals xs vs:=by
 cases r with
 | cons a b=>exact⟨_,_,rfl,a,b⟩
theorem ZT6 (K:Ad) (hc:X.calm=true) (hu:X.A.units+8<cLine) (hk:X.K=K:=by rfl):Zg2 X (.builtin "min") (λxs H Q=>∃(p:Addr) (ys:List V) (L:List (Int × Ac)) (fl:Bool),xs=[.ref p]/\SqL K H p ys/\0<ys.length/\ys.length=L.length /\
  (∀(i:Nat) (x:Int × Ac),L[i]?=some x->∃(a q:Addr) (rest:List V),ys[i]?=some (.ref a)/\SqT K H a (.int x.1 :: .ref q :: rest)/\SqT K H q (x.2.map V.int)/\(fl=true->rest=[]))/\(fl=false->L.Nodup) /\
  ∀(i:Nat) (a:Addr) (x:Int × Ac),L[i]?=some x->ys[i]?=some (.ref a)->(∀ m∈L,HT.ltP m x=false)->Q (.ref a) H):=by
 subst hk;intro pins s σ H xs us Q I r h;obtain⟨p,ys,L,fl,rfl,hq,hn,hl,hT,hnd,q⟩:=h;obtain⟨u,rfl,ru⟩:=Zk3 r;obtain rfl:u=Value.ref p:=ru;obtain⟨its,rv,pl,hz⟩:=I.list hq;have el:its.length=ys.length:=rv.length.symm
 have hp:p<s.heap.objs.size:=let ⟨_,_,e,_⟩:=pl;Yh e
 have nm:(toString "min"++toString ".loop":String)="min.loop":=by decide
 refine call_function_tree F.kind_min F.plain_min F.entry_min (F.args_min1 _) ?_;show wpAny _ X.A.in1 (Builtin.Builtins.bindParams "min" ["key","default"] 0 ⟨[],[]⟩ >>= _) _ _ s
 refine Yy0 (Y1m (a:=[none,none]) rfl ?_);refine Yy0 (Yf ?_);refine Yy0 (Y2g pl.isList ?_);refine Yy0 (Y0h ?_);rw[nm];have W:=Walks.list (prog:=X.prog) (w:=X.w) (A:=X.A.in1) (I.ok.hd hc) s.heap.objs.size p (Yo hp) its.toArray
 obtain⟨G,hG⟩:∃ G,G=s.heap.push { cls:=.type "list_iterator",data:=.fields #[.ref p,.int 0 0] }:=⟨_,rfl⟩;have e1:G.get? s.heap.objs.size=some { cls:=.type "list_iterator",data:=.fields #[.ref p,.int 0 0] }:=by rw [hG];exact Yj s.heap rfl
 have z1:G.objs.size=s.heap.objs.size+1:=by rw[hG];exact Y0n ..
 have up:∀ b o,s.heap.get? b=some o->G.get? b=some o:=λb o e=>by rw[hG];exact Yy4 _ e
 have plG:G.IsList p its.toArray:=by rw[hG];exact pl.isList.push _
 rw[<- hG];have at':∀(i:Nat) (v:Value),its.toArray[i]?=some v->∃(a:Addr) (x:Int × Ac) (qa:Addr) (rest:List V),L[i]?=some x/\ys[i]?=some (.ref a)/\v=.ref a/\SqT X.K H a (.int x.1 :: .ref qa :: rest)/\SqT X.K H qa (x.2.map V.int)/\(fl=true->rest=[]):=λi v e=>by
  have e:its[i]?=some v:=by simpa using e
  have hi:i<its.length:=(Yy3.mp e).1;obtain⟨a,qa,rest,ea,ta,tq,tf⟩:=hT i L[i] (Yy2 (by omega));obtain⟨x,ex,rx⟩:=rv.at hi;have ea2:=ea
  rw[ex]at ea2;cases ea2;rw[Yy2 hi]at e;have e:its[i]=v:=Yd e
  rw[e]at rx;exact⟨a,L[i],qa,rest,Yy2 (by omega),ea,rx,ta,tq,tf⟩
 refine Yf ⟨Yy11 Yy14 _,?_⟩;obtain⟨lt,hlt⟩:∃ lt:Nat->Nat->Bool,lt=λi j=>HT.ltP (L.getD i (0,[])) (L.getD j (0,[])):=⟨_,rfl⟩;refine ZS5 (A:=X.A) (S:=G.objs.size) W lt (λh=>∀ b o,s.heap.get? b=some o->h.get? b=some o) (λh h' c k b o e=>k b o (by rw[z1];exact Yo (Y0j (Yh e))) (λz=>absurd (Yy1.mp z) (Yo (Yh e))) (c b o e)) (λs2 i j v u E Q c hij pv pu hQ=>?_) ?_ (by rw[Yy9];lia) ⟨⟨_,Yy4 _ e1,rfl,rfl⟩,plG.push _⟩ (λb o e=>Yy4 _ (up b o e)) (Yj _ rfl) λv h' tk pv hk'=>?_
 .obtain⟨a1,x1,q1,r1,l1,_,rfl,t1,tq1,f1⟩:=at' i v pv;obtain⟨a2,x2,q2,r2,l2,_,rfl,t2,tq2,f2⟩:=at' j u pu;have keep:∀ {a:Addr} {xs:Array Value},IsTup s.heap a xs->IsTup s2.heap a xs:=λ⟨o,ho,z⟩=>⟨o,c _ o ho,z⟩
  obtain⟨i1,v1,p1,_⟩:=I.tuple t1;obtain⟨i2,v2,p2,_⟩:=I.tuple t2;obtain⟨j1,w1,o1,_⟩:=I.tuple tq1;obtain⟨j2,w2,o2,_⟩:=I.tuple tq2;obtain⟨c1,rest1,rfl,rc1,v1'⟩:=ZL1 v1;obtain⟨c2,rest2,rfl,rc2,v2'⟩:=ZL1 v2;obtain⟨d1,rest1,rfl,rd1,vv1⟩:=ZL1 v1';obtain⟨d2,rest2,rfl,rd2,vv2⟩:=ZL1 v2';obtain⟨tk1,rfl⟩:∃ t,c1=Value.int x1.1 t:=rc1;obtain⟨tk2,rfl⟩:∃ t,c2=Value.int x2.1 t:=rc2;obtain rfl:d1=Value.ref q1:=rd1;obtain rfl:d2=Value.ref q2:=rd2;have g1:L.getD i (0,[])=x1:=My.getD_of l1
  have g2:L.getD j (0,[])=x2:=My.getD_of l2;refine HT.lt_pair (keep p1) (keep p2) (keep o1) (keep o2) (by simpa using ZA w1) (by simpa using ZA w2) (λb1 b2=>?_) (by show X.A.units+1+2<cLine;lia) (by rw[hlt]at hQ;simpa only [g1,g2] using hQ);have hxx:x1=x2:=Prod.ext b1 b2
  cases hfl:fl with
  | true =>
   have z1:=f1 hfl;have z2:=f2 hfl
   rw[z1]at vv1;rw[z2]at vv2;have a1:=vv1.length
   have a2:=vv2.length;exact⟨YV.mp a1.symm,YV.mp a2.symm⟩
  | false =>
   exact absurd (My.nodup_get (hnd hfl) l1 (by rwa[hxx])) hij
 .rw[z1];simp only [Ye,Y1K,or_false,not_or];exact⟨Nat.succ_ne_self _,Y0u (Y0j hp)⟩
 .obtain⟨a,x,qa,rest,l1,y1,rfl,_⟩:=at' _ v pv;have hs:its.toArray.size=ys.length:=by rwa[Yy9]
  refine⟨.ref a,H,I.kept λb o e=>hk' b o ?_ ?_ (Yy4 _ (up b o e)),rfl,q _ a x l1 y1 λm hm=>?_⟩
  .rw[z1];exact Yo (Y0j (Yh e))
  .exact λh=>absurd (Yy1.mp h) (Yo (Yh e))
  .obtain⟨i,hi,ei⟩:=Y2s hm;have k:=My.best_leastG (lt:=lt) (λi=>by rw[hlt];exact HT.ltP_irrefl _) (λi j k a b=>by rw[hlt]at a b ⊢;exact HT.ltP_trans a b) (its.toArray.size - 1) i (by grind)
   have g1:L.getD i (0,[])=m:=by rw[Yy7,Yy2 hi,ei];rfl
   have g2:L.getD (argBest lt (its.toArray.size - 1)) (0,[])=x:=My.getD_of l1;rw[<- g1,<- g2];rw[hlt]at k ⊢;exact k
end
end L2
namespace My
open PySem L2
section
variable{one d0 d1:Int}{other:Option Int}
def hdD(one:Int)(other:Option Int)(d0 d1 y:Int):Int:=if y=one then d0 else if some y=other then d1 else y
end
end My
namespace L2
open PySem PySem.Spec PyProof.Rows
def TL(l:List Str):List V:=l.map V.str
theorem ZQ2:∀ {l:List Str} {us:Ag},Vals (TL l) us->∃ k:List (Str × Tok),us=strValues k/\k.map (λx=>x.fst)=l
 | [],_,.nil=>⟨[],rfl,rfl⟩
 | x :: l,_,.cons r t=>by obtain⟨tk,rfl⟩:=r;obtain⟨k,rfl,h⟩:=ZQ2 (l:=l) t;exact⟨(x,tk) :: k,rfl,by rw[YU,h]⟩
section
variable{X:Cx}
def Zu13(K:Ad):V->List V->Hp->VK->Prop:=λx vs H Q=>∃(sep:Str) (a:Addr) (l:List Str),x=.str sep/\vs=[.ref a]/\SqL K H a (TL l)/\JoinOk sep l=true/\Q (.str (sep.join l)) H
theorem Zj9 (K:Ad) (h:X.K=K:=by rfl):MtM X "str.join" (Zu13 K):=by subst h;intro pins s σ H x vs v us Q I rx rv h;obtain⟨sep,a,l,rfl,rfl,hq,hj,q⟩:=h;obtain⟨tk,rfl⟩:=rx;obtain⟨u,rfl,ru⟩:=rv.one;cases ru;obtain⟨its,r,pl,hz⟩:=I.list hq;obtain⟨k,rfl,hk⟩:=ZQ2 r;refine PySem.SC.join pl.isList hk hj λt' n=>⟨.str _,H,I.tok n,⟨t',rfl⟩,?_⟩;rwa[show Txt.join sep l=sep.join l from PySem.StrLaws.glued_eq_join sep l]
end
end L2
namespace My
open PySem L2
def nT(i:Int):Str:=Str.ofString (toString i)
theorem ZW3(l:List Str):(TL l).length=l.length:=by unfold TL;rw[Yc]
theorem Zl10(l:List Str)(x:Str):TL l++[.str x]=TL (l++[x]):=by unfold TL;rw[YC];rfl
abbrev Tr:=Int × Aa × Ac
theorem Zm10(A B:List Str):TL A++TL B=TL (A++B):=(YC ..).symm
end My
namespace My
open PySem PySem.W PyProof.Rows
def goT{α:Type}(c:Nat->Nat->Bool):KasT α->α
 | .ret a=>a
 | .ask i j k=>goT c (k (c i j))
theorem ZB1{α β:Type}{c:Nat->Nat->Bool}{f:α->KasT β}:∀ t:KasT α,goT c (t.bind f)=goT c (f (goT c t))
 | .ret _=>rfl
 | .ask i j k=>ZB1 (k (c i j))
section
variable{n:Nat}{key:Nat->Int}
def Ahd(key:Nat->Int)(i j:Nat):Prop:=key i<key j\/(key i=key j/\i<j)
theorem Ahd.trans{i j k:Nat}(h1:Ahd key i j)(h2:Ahd key j k):Ahd key i k:=by unfold Ahd at *;grind
structure Ord (n m:Nat) (p:Array Nat):Prop where
 perm:p.Perm (List.range n).toArray
 suf:∀ i,m<=i->i<n->p.getD i 0=i
theorem Ord.size(h:Ord n m p):p.size=n:=by rw[h.perm.size_eq];simp
theorem Zz312{p:Array Nat}(h:i<p.size):p[i]?=some (p.getD i 0):=by rw[Ys,YE h];rfl
theorem Ord.inj(h:Ord n m p)(hi:i<n)(hj:j<n)(e:p.getD i 0=p.getD j 0):i=j:=by
 have hn:p.toList.Nodup:=(Yy15.mp h.perm).nodup_iff.mpr List.nodup_range;have hs:=h.size
 have e1:=Zz312 (p:=p) (i:=i) (by lia);have e2:=Zz312 (p:=p) (i:=j) (by lia)
 rw[<- YQ]at e1 e2;exact(List.getElem?_inj (i:=i) (j:=j) (by rw[YA];omega) hn).mp (by rw[e1,e2,e])
theorem Ord.lt(h:Ord n m p)(hm:m<=n)(hi:i<m):p.getD i 0<m:=by
 by_cases hc:p.getD i 0<m
 .exact hc
 .have hs:=h.size;have hb:p.getD i 0<n:=by have e1:=Zz312 (p:=p) (i:=i) (by grind);rw[<- YQ]at e1;exact YG.mp ((Yy15.mp h.perm).mem_iff.mp (Yy8 e1))
  have e:=h.inj (by lia) hb (h.suf _ (by omega) hb).symm;grind
theorem Ord.mono(h:Ord n m p)(hk:m<=k):Ord n k p:=⟨h.perm,λi hi=>h.suf i (by lia)⟩
theorem Zh2{i j k:Nat}(hj:j<=p.size):(kas_rev p i j).getD k 0=if i<=k/\k<j then p.getD (i+j - 1 - k) 0 else p.getD k 0:=by unfold kas_rev;rw[Ys,getElem?_mirror_all hj,apply_ite (λo:Option Nat=>o.getD 0),<- Ys,<- Ys]
theorem Ord.rev(h:Ord n m p)(hj:j<=m)(hm:m<=n):Ord n m (kas_rev p i j):=by have hs:=h.size;refine⟨(mirror_perm _ _ _ _).trans h.perm,λk hk hn=>?_⟩;rw[Zh2 (by lia),if_neg (by lia)];exact h.suf k hk hn
def Asc(key:Nat->Int)(m:Nat)(p:Array Nat):Prop:=∀ i j,i<j->j<m->Ahd key (p.getD i 0) (p.getD j 0)
theorem Asc.more(hm:1<=m)(h:Asc key m p)(h2:Ahd key (p.getD (m - 1) 0) (p.getD m 0)):Asc key (m+1) p:=λi j hij hj=>by
 by_cases e:j=m
 .subst e;by_cases e2:i=j - 1
  .rw[e2];exact h2
  .exact(h i (j - 1) (by lia) (by omega)).trans h2
 .exact h i j hij (by lia)
theorem Zz510:∀(f m:Nat) (p:Array Nat),m+f=n->1<=m->Ord n m p->Asc key m p->∃ k,goT (λi j=>decide (key i<key j)) (kas_asc p f m)=k/\m<=k/\k<=n/\Asc key k p/\(k<n->key (p.getD k 0)<key (p.getD (k - 1) 0))
 | 0,m,p,hf,h1,ho,ha=>⟨m,rfl,Yy6 _,by lia,ha,λh=>by lia⟩
 | f+1,m,p,hf,h1,ho,ha=>by
  show ∃ k,goT _ (if decide (key (p.getD m 0)<key (p.getD (m - 1) 0))=true then KasT.ret m else kas_asc p f (m+1))=k/\_;by_cases hc:key (p.getD m 0)<key (p.getD (m - 1) 0)
  .rw[if_pos (Yt hc)];exact⟨m,rfl,Yy6 _,by lia,ha,λ_=>hc⟩
  .rw[if_neg (λz=>hc (Yy z))];have e:=ho.suf m (Yy6 _) (by lia)
   have l:=ho.lt (by lia) (i:=m - 1) (by lia);obtain⟨k,e1,e2,e3,e4,e5⟩:=Zz510 f (m+1) p (by lia) (by lia) (ho.mono (by lia)) (ha.more h1 (by unfold Ahd;rw[e]at hc ⊢;lia));exact⟨k,e1,by lia,e3,e4,e5⟩
structure Dsc (key:Nat->Int) (m g:Nat) (p:Array Nat):Prop where
 le:g+1<=m
 old:∀ i j,i<j->j<m - (g+1)->Ahd key (p.getD j 0) (p.getD i 0)
 mid:∀ i j,i<m - (g+1)->m - (g+1)<=j->j<m->key (p.getD j 0)<key (p.getD i 0)
 own:∀ i j,m - (g+1)<=i->i<j->j<m->key (p.getD i 0)=key (p.getD j 0)/\p.getD i 0<p.getD j 0
def Fall(key:Nat->Int)(m:Nat)(p:Array Nat):Prop:=∀ i j,i<j->j<m->Ahd key (p.getD j 0) (p.getD i 0)
theorem Dsc.turn(h:Dsc key m g p)(hs:m<=p.size):Fall key m (kas_rev p (m - (g+1)) m):=λi j hij hj=>by
 have hl:=h.le;rw[Zh2 hs,Zh2 hs];by_cases c1:m - (g+1)<=j
 .rw[if_pos ⟨c1,hj⟩];by_cases c2:m - (g+1)<=i
  .rw[if_pos ⟨c2,by lia⟩];exact .inr (h.own (m - (g+1)+m - 1 - j) (m - (g+1)+m - 1 - i) (by omega) (by omega) (by lia))
  .rw[if_neg (by lia)];exact .inl (h.mid i _ (by lia) (by lia) (by lia))
 .rw[if_neg (by lia),if_neg (by lia)];exact h.old i j hij (by lia)
theorem Dsc.last(h:Dsc key m g p)(hs:m<=p.size):key ((kas_rev p (m - (g+1)) m).getD (m - 1) 0)=key (p.getD (m - 1) 0):=by
 have hl:=h.le;rw[Zh2 hs,if_pos (by grind)];by_cases e:g=0
 .congr 2;grind
 .exact(h.own (m - (g+1)+m - 1 - (m - 1)) (m - 1) (by omega) (by omega) (by lia)).1
theorem Dsc.fall(h:Dsc key m 0 p):Fall key m p:=λi j hij hj=>by
 have hl:=h.le;by_cases e:j<m - (0+1)
 .exact h.old i j hij e
 .exact .inl (h.mid i j (by grind) (by lia) hj)
theorem Fall.new(hm:1<=m)(h:Fall key m p)(hk:key (p.getD m 0)<key (p.getD (m - 1) 0)):Dsc key (m+1) 0 p:=by
 refine⟨by lia,λi j hij hj=>h i j hij (by lia),λi j hi h1 h2=>?_,λi j h1 h2 h3=>by grind⟩;have e:j=m:=by lia
 subst e;by_cases c:i=j - 1
 .rw[c];exact hk
 .have:=h i (j - 1) (by lia) (by omega)
  unfold Ahd at this;omega
theorem Fall.rev(h:Fall key m p)(hs:m<=p.size):Asc key m (kas_rev p 0 m):=λi j hij hj=>by rw[Zh2 hs,Zh2 hs,if_pos ⟨Yl _,by lia⟩,if_pos ⟨Yl _,hj⟩];exact h _ _ (by omega) (by omega)
theorem Asc.rev(h:Asc key m p)(hs:m<=p.size):Fall key m (kas_rev p 0 m):=λi j hij hj=>by rw[Zh2 hs,Zh2 hs,if_pos ⟨Yl _,hj⟩,if_pos ⟨Yl _,by omega⟩];exact h _ _ (by omega) (by omega)
theorem Zy4:∀(f m g:Nat) (p:Array Nat),m+f=n->Ord n m p->Dsc key m g p->∃ p' m' g',goT (λi j=>decide (key i<key j)) (kas_desc f p m g)=(p',m',g')/\m<=m'/\m'<=n/\Ord n m' p'/\Dsc key m' g' p'
 | 0,m,g,p,hf,ho,hd=>⟨p,m,g,rfl,Yy6 _,by omega,ho,hd⟩
 | f+1,m,g,p,hf,ho,hd=>by
  have hl:=hd.le;have hs:=ho.size
  have em:=ho.suf m (Yy6 _) (by lia);have ll:=ho.lt (by lia) (i:=m - 1) (by lia)
  show ∃ p' m' g',goT _ (if decide (key (p.getD m 0)<key (p.getD (m - 1) 0))=true then (if g > 0 then kas_desc f (kas_rev p (m - (g+1)) m) (m+1) 0 else kas_desc f p (m+1) 0) else KasT.ask (p.getD (m - 1) 0) (p.getD m 0) λd=>if d=true then .ret (p,m,g) else kas_desc f p (m+1) (g+1))=_/\_;by_cases hc:key (p.getD m 0)<key (p.getD (m - 1) 0)
  .rw[if_pos (Yt hc)];by_cases hg:g > 0
   .rw[if_pos hg];have hr:=ho.rev (i:=m - (g+1)) (Yy6 m) (by lia)
    have em2:=hr.suf m (Yy6 _) (by lia);obtain⟨p',m',g',e1,e2,e3,e4,e5⟩:=Zy4 f (m+1) 0 (kas_rev p (m - (g+1)) m) (by lia) (hr.mono (by lia)) ((hd.turn (by lia)).new (by lia) (by rw[hd.last (by omega),em2];rwa[em]at hc));exact⟨p',m',g',e1,by lia,e3,e4,e5⟩
   .rw[if_neg hg];obtain rfl:g=0:=by lia
    obtain⟨p',m',g',e1,e2,e3,e4,e5⟩:=Zy4 f (m+1) 0 p (by omega) (ho.mono (by omega)) (hd.fall.new (by lia) hc);exact⟨p',m',g',e1,by lia,e3,e4,e5⟩
  .rw[if_neg (λz=>hc (Yy z))];show ∃ p' m' g',goT _ (if decide (key (p.getD (m - 1) 0)<key (p.getD m 0))=true then KasT.ret (p,m,g) else kas_desc f p (m+1) (g+1))=_/\_
   by_cases hc2:key (p.getD (m - 1) 0)<key (p.getD m 0)
   .rw[if_pos (Yt hc2)];exact⟨p,m,g,rfl,Yy6 _,by omega,ho,hd⟩
   .rw[if_neg (λz=>hc2 (Yy z))];have ek:key (p.getD (m - 1) 0)=key (p.getD m 0):=by lia
    obtain⟨p',m',g',e1,e2,e3,e4,e5⟩:=Zy4 f (m+1) (g+1) p (by omega) (ho.mono (by omega)) ⟨by lia,λi j h1 h2=>hd.old i j h1 (by lia),λi j h1 h2 h3=>by
     by_cases c:j=m
     .rw[c,<- ek];exact hd.mid i (m - 1) (by lia) (by grind) (by lia)
     .exact hd.mid i j (by lia) (by lia) (by lia),λi j h1 h2 h3=>by
     by_cases c:j=m
     .rw[c];by_cases c2:i=m - 1
      .rw[c2,em];rw[em]at ek;exact⟨ek,ll⟩
      .have:=hd.own i (m - 1) (by lia) (by lia) (by omega)
       rw[em];rw[em]at ek;exact⟨this.1.trans ek,by lia⟩
     .exact hd.own i j (by lia) h2 (by omega)⟩
    exact⟨p',m',g',e1,by lia,e3,e4,e5⟩
theorem ZR7(hm:1<=m)(hn:m<=n)(ho:Ord n m p)(hf:Fall key m p):∃ k p',goT (λi j=>decide (key i<key j)) (kas_tail3 m n p)=(k,p')/\1<=k/\k<=n/\Ord n k p'/\Asc key k p':=by
 have hs:=ho.size;unfold kas_tail3;rw[ZB1];have hr:=ho.rev (i:=0) (Yy6 m) hn
 obtain⟨k,e1,e2,e3,e4,_⟩:=Zz510 (n - m) m (kas_rev p 0 m) (by grind) hm hr (hf.rev (by lia));rw[e1];exact⟨k,_,rfl,by lia,e3,hr.mono e2,e4⟩
theorem Zz38(hm:1<=m)(hn:m<n)(ho:Ord n m p)(hf:Fall key m p)(hk:key (p.getD m 0)<key (p.getD (m - 1) 0)):∃ k p',goT (λi j=>decide (key i<key j)) (kas_descPart m n p)=(k,p')/\1<=k/\k<=n/\Ord n k p'/\Asc key k p':=by
 unfold kas_descPart;rw[ZB1];obtain⟨p',m',g',e1,e2,e3,e4,e5⟩:=Zy4 (n - (m+1)) (m+1) 0 p (by grind) (ho.mono (by lia)) (hf.new hm hk);rw[e1];have hs:=e4.size
 show ∃ k q,goT _ (if g' > 0 then kas_tail3 m' n (kas_rev p' (m' - (g'+1)) m') else kas_tail3 m' n p')=_/\_;by_cases hg:g' > 0
 .rw[if_pos hg];exact ZR7 (by lia) e3 (e4.rev (Yy6 _) e3) (e5.turn (by lia))
 .rw[if_neg hg];obtain rfl:g'=0:=by lia
  exact ZR7 (by lia) e3 e4 e5.fall
theorem ZW9(hn:1<=n)(ho:Ord n 1 p):∃ k p',goT (λi j=>decide (key i<key j)) (kas_count n p)=(k,p')/\1<=k/\k<=n/\Ord n k p'/\Asc key k p':=by
 unfold kas_count;rw[ZB1];obtain⟨k,e1,e2,e3,e4,e5⟩:=Zz510 (key:=key) (n - 1) 1 p (by lia) (Yy6 _) ho λi j h1 h2=>by lia
 rw[e1];have hs:=ho.size
 have hk:=ho.mono e2;by_cases c:k=n
 .rw[if_pos (by rw[c];exact Yy29 n)];exact⟨k,p,rfl,e2,e3,hk,e4⟩
 .rw[if_neg (λz=>c (Y0X.mp z))];have hlt:k<n:=by lia
  have h5:=e5 hlt;by_cases c1:k > 1
  .rw[if_pos c1];show ∃ k' p',goT _ (if decide (key (p.getD 0 0)<key (p.getD (k - 1) 0))=true then KasT.ret (k,p) else kas_descPart k n (kas_rev p 0 k))=_/\_
   by_cases c2:key (p.getD 0 0)<key (p.getD (k - 1) 0)
   .rw[if_pos (Yt c2)];exact⟨k,p,rfl,e2,e3,hk,e4⟩
   .rw[if_neg (λz=>c2 (Yy z))];have a0:=e4 0 (k - 1) (by lia) (by lia)
    have eq:key (p.getD 0 0)=key (p.getD (k - 1) 0):=by unfold Ahd at a0;grind
    have hr:=hk.rev (i:=0) (Yy6 k) (by lia);refine Zz38 e2 hlt hr (e4.rev (by lia)) ?_;rwa[Zh2 (by omega),Zh2 (by omega),if_neg (by lia),if_pos (by lia),show 0+k - 1 - (k - 1)=0 by lia,eq]
  .rw[if_neg c1];obtain rfl:k=1:=by lia
   exact Zz38 (Yy6 _) hlt hk (λi j h1 h2=>by lia) h5
theorem Zt3(hk:Asc key k p):∀(f l r:Nat),r - l<=f->l<=r->r<=k->(∀ i,i<l->¬ key (p.getD k 0)<key (p.getD i 0))->(∀ i,r<=i->i<k->key (p.getD k 0)<key (p.getD i 0))->∃ l',goT (λi j=>decide (key i<key j)) (kas_place p k f l r)=l'/\l'<=k/\(∀ i,i<l'->¬ key (p.getD k 0)<key (p.getD i 0))/\(∀ i,l'<=i->i<k->key (p.getD k 0)<key (p.getD i 0))
 | 0,l,r,hf,h1,h2,ha,hb=>⟨l,rfl,by lia,ha,λi hi=>hb i (by grind)⟩
 | f+1,l,r,hf,h1,h2,ha,hb=>by
  have mono:∀ i j,i<=j->j<k->key (p.getD i 0)<=key (p.getD j 0):=λi j hij hj=>by
   by_cases e:i=j
   .rw[e];exact Y0G _
   .have:=hk i j (by lia) hj
    unfold Ahd at this;lia
  unfold kas_place;by_cases c:l >= r
  .rw[if_pos c];exact⟨l,rfl,by lia,ha,λi hi=>hb i (by lia)⟩
  .rw[if_neg c];show ∃ l',goT _ (if decide (key (p.getD k 0)<key (p.getD ((l+r) / 2) 0))=true then kas_place p k f l ((l+r) / 2) else kas_place p k f ((l+r) / 2+1) r)=l'/\_
   by_cases c2:key (p.getD k 0)<key (p.getD ((l+r) / 2) 0)
   .rw[if_pos (Yt c2)];exact Zt3 hk f l ((l+r) / 2) (by grind) (by lia) (by lia) ha λi hi hik=>by
     have:=mono ((l+r) / 2) i hi hik
     omega
   .rw[if_neg (λz=>c2 (Yy z))];exact Zt3 hk f ((l+r) / 2+1) r (by grind) (by lia) (by lia) (λi hi=>by
     have:=mono i ((l+r) / 2) (by lia) (by lia)
     omega) hb
theorem Zz110{k d x:Nat}(hk:k<p.size)(hd:d<=k):(bubble p k d).getD x 0=if x=k - d then p.getD k 0 else if k - d<x/\x<=k then p.getD (x - 1) 0 else p.getD x 0:=by rw[Ys,getElem?_bubble hk d hd,apply_ite (λo:Option Nat=>o.getD 0),apply_ite (λo:Option Nat=>o.getD 0),<- Ys,<- Ys,<- Ys]
theorem ZR11:∀(f k:Nat) (p:Array Nat),k+f=n->Ord n k p->Asc key k p->∃ p',goT (λi j=>decide (key i<key j)) (kas_bin f p k)=p'/\Ord n n p'/\Asc key n p'
 | 0,k,p,hf,ho,ha=>by
  obtain rfl:k=n:=by lia
  exact⟨p,rfl,ho,ha⟩
 | f+1,k,p,hf,ho,ha=>by
  have hs:=ho.size;have ek:=ho.suf k (Yy6 _) (by lia)
  unfold kas_bin;rw[ZB1];obtain⟨l,e1,e2,e3,e4⟩:=Zt3 ha k 0 k (by lia) (by lia) (Yy6 _) (λi hi=>by lia) λi hi hi2=>by grind
  rw[e1];refine ZR11 f (k+1) (bubble p k (k - l)) (by lia) ⟨(bubble_perm _ _ _).trans ho.perm,λi hi hn=>?_⟩ λi j hij hj=>?_
  .rw[Zz110 (by lia) (by grind),if_neg (by lia),if_neg (by lia)];exact ho.suf i (by lia) hn
  .have low:∀ x,x<k->p.getD x 0<k:=λx hx=>ho.lt (by lia) hx;rw[Zz110 (by lia) (by grind),Zz110 (by omega) (by omega)];have ekl:k - (k - l)=l:=by grind
   rw[ekl];by_cases c1:i=l
   .rw[if_pos c1,if_neg (by lia),if_pos (by lia)];exact .inl (e4 (j - 1) (by grind) (by grind))
   .rw[if_neg c1];by_cases c2:j=l
    .rw[if_pos c2,if_neg (by lia)];have a:=e3 i (by grind)
     have b:=low i (by lia);rw[ek]at a ⊢;unfold Ahd;lia
    .rw[if_neg c2];by_cases c3:l<i
     .rw[if_pos ⟨c3,by lia⟩,if_pos ⟨by lia,by lia⟩];exact ha _ _ (by grind) (by grind)
     .rw[if_neg (by lia)];by_cases c4:l<j
      .rw[if_pos ⟨c4,by omega⟩];exact ha _ _ (by lia) (by grind)
      .rw[if_neg (by lia)];exact ha _ _ hij (by lia)
theorem sort_go(hn:1<=n):∃ p,goT (λi j=>decide (key i<key j)) (kas_sort n)=p/\p.toList.Perm (List.range n)/\p.toList.Pairwise (Ahd key):=by
 have fin:∀ p,Ord n n p->Asc key n p->p.toList.Perm (List.range n)/\p.toList.Pairwise (Ahd key):=λp ho ha=>by
  have hs:=ho.size;refine⟨Yy15.mp ho.perm,Yy07.mpr λi j hi hj hij=>?_⟩;rw[YA]at hi hj
  have:=ha i j hij (by lia)
  rwa[Ys,Ys,YE hi,YE hj]at this
 unfold kas_sort;rw[ZB1];obtain⟨k,p,e1,e2,e3,e4,e5⟩:=ZW9 (key:=key) hn (p:=(List.range n).toArray) ⟨Array.Perm.refl _,λi _ hi=>by simp[Array.getD,hi]⟩;rw[e1];show ∃ q,goT _ (if k<n then kas_bin (n - max k 1) p (max k 1) else .ret p)=q/\_
 by_cases c:k<n
 .rw[if_pos c,Nat.max_eq_left e2];obtain⟨q,h1,h2,h3⟩:=ZR11 (n - k) k p (by grind) e4 e5;exact⟨q,h1,fin q h2 h3⟩
 .rw[if_neg c];obtain rfl:k=n:=by lia
  exact⟨p,rfl,fin p e4 e5⟩
end
end My
namespace L2
open PySem PySem.Spec PyProof.Rows
def ZN11(P:Program)(w:World)(K:Ad)(mg:Af)(base:Heap)(N:List Str)(qual:Str)(scope:Scope)(f:Addr)(cd:Value)(cl:List (Str × Addr))(A:Around)(outer:List Env)(s:Shared)(H:Hp):Cx where
 prog:=P
 w:=w
 K:=K
 mg:=mg
 base:=base
 A:=A.deeper (PySem.W.envX qual scope s.heap.objs.size f cd cl)
 N:=N
 s₀:=s
 H₀:=H
 env:=PySem.W.envX qual scope s.heap.objs.size f cd cl
 outer:=outer
 stack:=PySem.W.envX qual scope s.heap.objs.size f cd cl :: outer
 ex:=[]
 calm:=true
 fn:=λ_=>false
 pn:=[]
 xe:=λ_ _=>False
structure LamScope (v x:Str) (sc:Scope):Prop where
 kind:sc.kind=.function
 co:sc.isCoroutine=false
 gen:sc.isGenerator=false
 nocell:∀ y∈sc.names,y.2≠.cell
 par:sc.names.lookup v=some .local
 free:sc.names.lookup x=some .free
 only:∀ y,sc.names.lookup y=some .free->y=x
 ne:v≠x
section
variable{P:Program}{w:World}{K:Ad}{mg:Af}{base:Heap}{qual name v x:Str}{scope:Scope}{f c c':Addr}{cd pm ctv u ux:Value}{A:Around}{outer:List Env}{s:Shared}{H:Hp}{vv vx:V}{params:Arguments}{body:Expr}{k:Nat}{t:TE}{Q:VK}
theorem ZD2{c2:Addr}(h:List.lookup y [(x,c)]=some c2):y=x/\c2=c:=by
 unfold List.lookup at h;split at h
 .rename_i e;exact⟨Y0X.mp e,(Yd h).symm⟩
 .cases h
theorem Zo11(S:LamScope v x scope)(hd:A.handled=none)(e0:Env0 P w K mg base A outer s H)(hc:s.heap.IsCell c (some ux))(rx:RelV vx ux)(hfc:H c=none)(rv:RelV vv u){h1:Heap}{tk:Nat}
  (hns:h1.Ns s.heap.objs.size λy=>[(v,u)].reverse.lookup y) (hk:∀ b o,s.heap.get? b=some o->h1.get? b=some o) :
  Inv (ZN11 P w K mg base [v,x] qual scope f cd [(x,c)] A outer s H) [] [some vv,some vx] H { s with heap:=h1,toks:=tk }:=by
 have noA:∀ b:Addr,b∉(ZN11 P w K mg base [v,x] qual scope f cd [(x,c)] A outer s H).ex:=λb z=>absurd (show b∈([]:List Addr) from z) (by simp);have hck:h1.IsCell c (some ux):=by obtain⟨o,e,d⟩:=hc;exact⟨o,hk _ _ e,d⟩
 have lk:List.lookup x [(x,c)]=some c:=by unfold List.lookup;rw[Yy29]
 refine⟨⟨e0.mod,S.kind,rfl,rfl,Yy6 _,λy z c2 h1 h2=>?_,λy hy=>?_,λy c2 z _=>(nomatch z),λ_=>hd,Around.frames_deeper e0.frames,.inr ⟨rfl,rfl⟩,λb z=>absurd z (noA b),e0.bs,e0.bsz,λb _ _=>noA b,λb z=>absurd z (noA b),e0.funs,e0.frf⟩,
  rfl,e0.bare,Un.kept hk,⟨_,hns,λi y v' h1 h2 h3=>?_⟩,λy c2 h=>?_,e0.hok.fresh (Yy6 _),λy c2 h=>?_,λp hp=>absurd (show p∈([]:List (Addr × Obj)) from hp) (by simp),e0.hok.kept hk,rfl⟩
 .rw[(ZD2 h1).1,(ZD2 h2).1]
 .have hy:scope.names.lookup y=some .cell\/scope.names.lookup y=some .free:=hy;rcases hy with hy | hy
  .exact absurd rfl (S.nocell _ (Y0H hy))
  .rw[S.only y hy];exact⟨c,lk⟩
 .match i,h1,h2 with
  | 0,h1,h2 =>
   obtain rfl:v=y:=Yd h1;obtain rfl:vv=v':=Yd (Yd h2);refine⟨u,rv,.inl ⟨S.par,?_⟩⟩;show List.lookup v [(v,u)]=some u
   unfold List.lookup;rw[Yy29]
  | 1,h1,h2 =>
   obtain rfl:x=y:=Yd h1;obtain rfl:vx=v':=Yd (Yd h2);exact⟨ux,rx,.inr ⟨.inr S.free,c,lk,hck⟩⟩
  | i+2,h1,h2=>cases h1
 .rw[(ZD2 h).2];exact⟨_,hck⟩
 .rw[(ZD2 h).2];exact hfc
theorem Zi11(S:LamScope v x scope)(hr:Room (k+1) A)(e0:Env0 P w K mg base A outer s H)(ho:s.heap.get? f=some (PySem.W.kla_obj name qual params body scope [(x,c)] pm c' ctv))(hcd:s.heap.CodeRec (.ref c') qual)
  (hbind:bindArgs (PySem.W.kla_fn name qual params body scope [(x,c)] pm (.ref c') ctv) ⟨[u],[]⟩=pure [(v,u)]) (hc:s.heap.IsCell c (some ux)) (rx:RelV vx ux) (hfc:H c=none) (rv:RelV vv u)
  (hb:PE (ZN11 P w K mg base [v,x] qual scope f (.ref c') [(x,c)] A outer s H) body t) (hq:t [some vv,some vx] H Q) :
  codeAny (model P w) A (.call (.ref f) ⟨[u],[]⟩) (λr s'=>∃ u',r=.ok (.ret u')/\CE outer P w H s Q u' s') s:=by
 have lim:s.heap.NoLimit:=e0.mod.nolimit.keeps λb o e=>(e0.bs b o e).1;refine PySem.W.kla_callFunE hr.depth ho rfl S.co S.gen rfl hcd ?_;rw[hbind];refine Yf (wpAny_newFunctionEnv S.nocell (λy hy=>?_) (λh1 hns hsb=>⟨lim.fresh _ hsb,?_⟩) S.kind)
 .rw[Yy1.mp hy];exact S.par
 have hk:∀ b o,s.heap.get? b=some o->h1.get? b=some o:=λb o e=>hsb.extBut b o (Yo (Yh e)) (Yy4 _ e);have I:Inv (ZN11 P w K mg base [v,x] qual scope f (.ref c') [(x,c)] A outer s H) [] [some vv,some vx] H { s with heap:=h1,toks:=s.toks+[(v,u)].length }:=Zo11 S hr.hd e0 hc rx hfc rv hns hk
 refine PySem.W.kla_codeExpr (Y0x (hb [] _ _ H _ I hq) (λu' s' h=>?_) λe s' h=>False.elim h);obtain⟨y,H',J,r,q⟩:=h;exact⟨u',rfl,y,H',J.os,J.bare,J.base,J.hok,r,q⟩
end
end L2
namespace My
open PySem PySem.W PyProof.Rows
def Asks{α:Type}(n:Nat)(R:α->Prop):KasT α->Prop
 | .ret a=>R a
 | .ask i j k=>i<n/\j<n/\∀ b,Asks n R (k b)
theorem Asks.bind{α β:Type}{R:α->Prop}{S:β->Prop}{f:α->KasT β}:∀ {t:KasT α},Asks n R t->(∀ a,R a->Asks n S (f a))->Asks n S (t.bind f)
 | .ret a,h,hf=>hf a h
 | .ask _ _ _,h,hf=>⟨h.1,h.2.1,λb=>Asks.bind (h.2.2 b) hf⟩
theorem goT_wp'{α:Type}{R:α->Prop}{c:Nat->Nat->Bool}{cmp:Nat->Nat->(Bool->Shared->Prop)->Shared->Prop}{J:Shared->Prop}(h:∀ i j C s,i<n->j<n->J s->(∀ s',J s'->C (c i j) s')->cmp i j C s){Q:α->Shared->Prop}:∀(t:KasT α) (s:Shared),Asks n R t->J s->(∀ s',J s'->Q (goT c t) s')->t.kasWp cmp Q s
 | .ret _,s,_,hs,q=>q s hs
 | .ask i j k,s,ha,hs,q=>h i j _ s ha.1 ha.2.1 hs λs' hs'=>goT_wp' h (k (c i j)) s' (ha.2.2 _) hs' q
section
variable{n:Nat}
def Bd(n:Nat)(p:Array Nat):Prop:=p.Perm (List.range n).toArray
theorem Bd.lt(h:Bd n p)(hn:1<=n)(i:Nat):p.getD i 0<n:=by
 by_cases hi:i<p.size
 .have e1:=Zz312 (p:=p) hi;rw[<- YQ]at e1;exact YG.mp ((Yy15.mp h).mem_iff.mp (Yy8 e1))
 .rw[Ys,Y1x (by lia)];exact hn
theorem Bd.rev(h:Bd n p)(i j:Nat):Bd n (kas_rev p i j):=(mirror_perm _ _ _ _).trans h
theorem ZQ3(hn:1<=n)(hp:Bd n p):∀ f m:Nat,Asks n (λ_=>True) (kas_asc p f m)
 | 0,m=>trivial
 | f+1,m=>⟨hp.lt hn _,hp.lt hn _,λb=>by
  cases b with
  | true=>exact trivial
  | false=>exact ZQ3 hn hp f (m+1)⟩
theorem ZR1(hn:1<=n):∀(f:Nat) (p:Array Nat) (m q:Nat),Bd n p->Asks n (λr=>Bd n r.1) (kas_desc f p m q)
 | 0,p,m,q,hp=>hp
 | f+1,p,m,q,hp=>⟨hp.lt hn _,hp.lt hn _,λb=>by
  cases b with
  | true =>
   show Asks n _ (if q > 0 then kas_desc f (kas_rev p (m - (q+1)) m) (m+1) 0 else kas_desc f p (m+1) 0);split
   .exact ZR1 hn f _ _ _ (hp.rev _ _)
   .exact ZR1 hn f _ _ _ hp
  | false =>
   refine⟨hp.lt hn _,hp.lt hn _,λd=>?_⟩;cases d with
   | true=>exact hp
   | false=>exact ZR1 hn f _ _ _ hp⟩
theorem ZX3(hn:1<=n)(hp:Bd n p)(m r:Nat):Asks n (λz=>Bd n z.2) (kas_tail3 m r p) :=
 (ZQ3 hn (hp.rev _ _) _ _).bind λ_ _=>hp.rev _ _
theorem Zz74(hn:1<=n)(hp:Bd n p)(m r:Nat):Asks n (λz=>Bd n z.2) (kas_descPart m r p) :=
 (ZR1 hn _ p _ _ hp).bind λz hz=>by
  split
  .exact ZX3 hn (hz.rev _ _) _ _
  .exact ZX3 hn hz _ _
theorem ZL6(hn:1<=n)(hp:Bd n p)(r:Nat):Asks n (λz=>Bd n z.2) (kas_count r p) :=
 (ZQ3 hn hp _ _).bind λz _=>by
  split
  .exact hp
  .split
   .refine⟨hp.lt hn _,hp.lt hn _,λb=>?_⟩;cases b with
    | true=>exact hp
    | false=>exact Zz74 hn (hp.rev _ _) _ _
   .exact Zz74 hn hp _ _
theorem ZX1(hn:1<=n)(hp:Bd n p)(k:Nat):∀ f l r:Nat,Asks n (λ_=>True) (kas_place p k f l r)
 | 0,l,r=>trivial
 | f+1,l,r=>by
  unfold kas_place;split
  .exact trivial
  .refine⟨hp.lt hn _,hp.lt hn _,λb=>?_⟩;cases b with
   | true=>exact ZX1 hn hp k f _ _
   | false=>exact ZX1 hn hp k f _ _
theorem ZV6(hn:1<=n):∀(f:Nat) (p:Array Nat) (k:Nat),Bd n p->Asks n (λz=>Bd n z) (kas_bin f p k)
 | 0,p,k,hp=>hp
 | f+1,p,k,hp=>(ZX1 hn hp k _ _ _).bind λl _=>ZV6 hn f _ _ ((bubble_perm _ _ _).trans hp)
theorem sort_asks(hn:1<=n):Asks n (λz=>Bd n z) (kas_sort n) :=
 (ZL6 hn (p:=(List.range n).toArray) (Array.Perm.refl _) n).bind λz hz=>by
  split
  .exact ZV6 hn _ _ _ hz
  .exact hz
end
end My
namespace L2
open PySem PySem.Spec PyProof.Rows PySem.W
def Zz710(key:Int->Int)(ns ms:Ac):Prop:=∃ p:List Nat,p.Perm (List.range ns.length)/\p.Pairwise (My.Ahd λi=>key (ns.getD i 0))/\ms=p.map λi=>ns.getD i 0
section
variable{X:Cx}{pins:List (Addr × Obj)}{σ:St}{H:Hp}{s:Shared}{b:Addr}{o:Obj}
theorem Inv.pin1(I:Inv X pins σ H s)(F:FpOk X pins H b)(e:s.heap.get? b=some o)(hd:∀ v,o.data≠.cell v):Inv X (pins++[(b,o)]) σ H s:=I.pins_of λp hp=>by
 rcases Ya.mp hp with hp | hp
 .exact I.pin p (Yb _ hp)
 .rw[Yy1.mp hp];exact⟨e,F.1,F.2.1,F.2.2.1,hd⟩
theorem FpOk.more{pl:List (Addr × Obj)}(F:FpOk X pins H b)(hn:∀ p∈pl,p.1≠b):FpOk X (pins++pl) H b:=⟨F.1,F.2.1,F.2.2.1,F.2.2.2.1,F.2.2.2.2.1,λp hp=>by
 rcases Ya.mp hp with hp | hp
 .exact F.2.2.2.2.2 p (Yg _ hp)
 .rcases Ya.mp hp with hp | hp
  .exact F.2.2.2.2.2 p (Yb _ hp)
  .exact hn p hp⟩
theorem Inv.changed{h':Heap}{t':Nat}(I:Inv X pins σ H s)(F:FpOk X pins H b)(k:∀ c o,c≠b->s.heap.get? c=some o->h'.get? c=some o):Inv X pins σ H { s with heap:=h',toks:=t' } :=
 I.turned k F.1 F.2.1 F.2.2.2.1 F.2.2.2.2.1 F.2.2.2.2.2
theorem Inv.adopt(I:Inv X pins σ H s)(hex:X.ex=[])(F:FpOk X pins H b)(new:ObjOk X.prog X.w (upd H b u) s.heap b u):Inv X pins σ (upd H b u) s:=by
 have f4:X.s₀.heap.objs.size<=b:=F.2.2.2.1.resolve_left (by rw[hex];simp);have hn:=F.1
 refine⟨I.ok,I.os,I.bare,⟨I.base.keep,I.base.slot,λc o e n hc=>?_,I.base.there,λc xs q=>?_,λc o w q=>?_,λc ps q=>?_⟩,I.loc,I.cell,?_,λx c e=>?_,λp hp=>?_,λc w e=>?_,I.len⟩
 .rw[Zz9 (Yo (Ym (Yh e) f4))];exact I.base.free c o e n hc
 .have:=I.base.tups c xs q
  rwa[Zz9 (Zb this hn)]
 .have:=I.base.frzs c o w q
  rwa[Zz9 (Zb this hn)]
 .obtain⟨m,this⟩:=I.base.tbls c ps q;exact⟨m,by rwa[Zz9 (Zb this hn)]⟩
 .rw[Zz9 (YR F.2.1)];exact I.free
 .rw[Zz9 (F.2.2.2.2.1 x c e)];exact I.freeC x c e
 .have:=I.pin p hp
  exact⟨this.1,by rw[Zz9 (F.2.2.2.2.2 p hp)];exact this.2.1,this.2.2⟩
 .by_cases hb:c=b
  .subst hb;rw[Zz1]at e;cases e;exact new
  .rw[Zz9 hb]at e;exact(I.hok c w e).stay (λ_ _ _ q=>q) (λd q=>by rwa[Zz9 (Zb q hn)]) λd xs q=>by rwa[Zz9 (Zb q hn)]
end
section
variable{X:Cx}{pins:List (Addr × Obj)}{σ:St}{H:Hp}{s:Shared}{a kS:Addr}{A:Around}{E:Ae}{P:PySem.Fin->Shared->Prop}{kA:Array Value}{e e1:Nat}{f:Value}{key:Int->Int}{ns:Ac}{vs:Ag}
theorem Zz76 {st:SortSt} {out:Ag} (I:Inv X (pins++[(a,seqObj "list" #[] e1),(kS,seqObj "list" kA e)]) σ H s) (Fa:FpOk X pins H a) (Fk:FpOk X pins H kS) (hak:a≠kS) (hz:kA.size<64) (hfl:failedOf st=none)
  (hout:(arrOf st).map (·.2)=out.toArray) (hlen:out.length<64) (h:∀ s' m,Inv X pins σ H s'->s'.heap.get? a=some (seqObj "list" out.toArray m)->P (.done (.ret .none)) s') :
  wpAny (model X.prog X.w) A (ksk_tail a false e1 (.ref kS) st) P E s:=by
 have hsl:sizeLine=16777216:=Y0W;have pa:=(I.pin (a,seqObj "list" #[] e1) (by simp)).1
 have pk:=(I.pin (kS,seqObj "list" kA e) (by simp)).1;have I0:Inv X pins σ H s:=I.unpinned
 have pa1:(s.heap.update kS (Obj.mapSeq λ_=>(#[]:Array Value))).get? a=some (seqObj "list" #[] e1):=(YN _ _ (YR hak)).trans pa;obtain⟨m,hm⟩:∃ m,((s.heap.update kS (Obj.mapSeq λ_=>(#[]:Array Value))).update a (Obj.mapSeq λ_=>out.toArray)).get? a=some (seqObj "list" out.toArray m):=⟨_,Y3f pa1 λ_=>out.toArray⟩;unfold ksk_tail;dsimp only;rw[hout];refine Yy0 (Y1X pk rfl ?_ (by lia) (Yl _));refine Yy0 (Y1T ?_);refine Yy0 (seqEpoch_at pa1 rfl ?_);refine Yy0 (Y1X pa1 rfl ?_ (Yl _) (by simp;lia));rw[hfl];simp only [bne_self_eq_false,Y2z,if_false];refine Yf (h _ m ?_ hm);have I1:Inv X pins σ H { s with heap:=s.heap.update kS (Obj.mapSeq λ_=>(#[]:Array Value)),toks:=s.toks }:=I0.changed Fk λc o hc q=>(YN _ _ (YR hc)).trans q
 exact I1.changed (t':=s.toks) Fa λc o hc q=>(YN _ _ (YR hc)).trans q
theorem Zh4:∀ {vs:Ag} {ns:Ac},IntsAre vs ns->∀ i,i<ns.length->∃ t,vs[i]?=some (.int (ns.getD i 0) t)
 | _,_,.nil,i,h=>absurd h (Yy02 _)
 | _,_,.cons n t r,0,h=>⟨t,rfl⟩
 | _,_,.cons n t r,i+1,h=>Zh4 r i (by rw[Yz]at h;lia)
theorem Zz86(hv:IntsAre vs ns)(hk:IntsAre kA.toList (ns.map key))(hi:i<ns.length):∃ t u,kas_item (kA.zip vs.toArray) i=(.int (key (ns.getD i 0)) t,.int (ns.getD i 0) u):=by
 obtain⟨u,hu⟩:=Zh4 hv i hi;obtain⟨t,ht⟩:=Zh4 hk i (by rwa[Yc]);have e:(ns.map key).getD i 0=key (ns.getD i 0):=by rw[Yy7,Yp,Yy7,Yy2 hi];rfl
 rw[e]at ht;refine⟨t,u,?_⟩;unfold kas_item;rw[Ys,<- YQ,ksk_zip,(Yy39 (z:=(Value.int (key (ns.getD i 0)) t,Value.int (ns.getD i 0) u))).mpr ⟨ht,hu⟩];rfl
theorem Zz96(hv:IntsAre vs ns)(hk:IntsAre kA.toList (ns.map key)):∀ l:List Nat,(∀ i∈l,i<ns.length)->IntsAre (l.map λi=>(kas_item (kA.zip vs.toArray) i).2) (l.map λi=>ns.getD i 0)
 | [],_=>.nil
 | i :: l,h=>by
  obtain⟨t,u,e⟩:=Zz86 hv hk (h i Yk);have r:=Zz96 hv hk l λj hj=>h j (Yi _ hj)
  rw[YU,YU,e];exact .cons _ u r
theorem Zj11 (I:Inv X (pins++[(a,seqObj "list" #[] e1),(kS,seqObj "list" kA e)]) σ H s) (Fa:FpOk X pins H a) (Fk:FpOk X pins H kS) (hak:a≠kS) (hv:IntsAre vs ns) (h64:ns.length<64) (hk:IntsAre kA.toList (ns.map key))
  (h:∀ s' m out ms,Inv X pins σ H s'->s'.heap.get? a=some (seqObj "list" out m)->IntsAre out.toList ms->Zz710 key ns ms->P (.done (.ret .none)) s') :
  wpAny (model X.prog X.w) A (ksk_end a false vs.toArray e1 (.ref kS) kA) P E s:=by
 have hvl:=hv.length;have hkl:=hk.length
 rw[YA,Yc]at hkl;have hzs:(kA.zip vs.toArray).size=ns.length:=by rw[Array.size_zip,show vs.toArray.size=vs.length from Yy9];grind
 unfold ksk_end;dsimp only;rw[if_neg (by decide)];by_cases h2:vs.toArray.size<2
 .rw[if_pos h2,if_pos h2];rw[Yy9]at h2;refine Yy0 (Yf ?_);rw[StateT.run_pure];refine Yy0 (Yf ?_);dsimp only;refine Zz76 (out:=vs) I Fa Fk hak (by lia) rfl ?_ (by grind) λs' m J e=>h s' m vs.toArray ns J e (by simpa using hv) ?_
  .show(if false=true then (kA.zip vs.toArray).reverse else kA.zip vs.toArray).map (·.2)=vs.toArray;rw[if_neg (by decide),Array.map_snd_zip (by rw[Yy9];lia)]
  .refine⟨List.range ns.length,List.Perm.refl _,?_,?_⟩
   .match ns.length,(show ns.length<2 by lia) with
    | 0,_=>exact List.Pairwise.nil
    | 1,_=>exact Yy05 _ _
   .match ns,(show ns.length<2 by omega) with
    | [],_=>rfl
    | [x],_=>rfl
 .rw[if_neg h2,if_neg h2];rw[Yy9]at h2;rw[ksk_kind hk (by lia)];refine Yy0 (Yf ?_);rw[if_neg (by decide)];obtain⟨p,hp1,hp2,hp3⟩:=My.sort_go (n:=ns.length) (key:=λi=>key (ns.getD i 0)) (by lia);have runs:=kas_runs (prog:=X.prog) (w:=X.w) (A:=A) (E:=E) (κ:=oneType') (it:=kA.zip vs.toArray) (n:=ns.length) (s:=s) (Q:=λ_ st s'=>s'=s/\failedOf st=none/\arrOf st=p.map (kas_item (kA.zip vs.toArray)))
   (G:=λq s'=>s'=s/\q=p) (by lia) h64 (λq st s' _ e2 e3 e4=>⟨e4.1,e3,by rw[e2,e4.2]⟩)
   (My.goT_wp' (c:=λi j=>decide (key (ns.getD i 0)<key (ns.getD j 0))) (J:=λs'=>s'=s) (λi j C s' hi hj hs hC=>by obtain⟨t,u,e⟩:=Zz86 hv hk hi;obtain⟨t',u',e'⟩:=Zz86 hv hk hj;unfold kas_cmp;rw[e,e'];exact kat_lt_int (hC s' hs)) _ s (My.sort_asks (by omega)) rfl λs' hs=>⟨hs,hp1⟩)
  unfold kasC kas_st at runs;rw[<- hzs,kas_range]at runs;refine Yy0 (Y0x runs ?_ λ_ _ z=>z);rintro⟨⟨⟩,st⟩ s' ⟨rfl,hf,ha⟩;dsimp only;have hb:∀ i∈p.toList,i<ns.length:=λi hi=>YG.mp (hp2.mem_iff.mp hi)
  have hpl:p.toList.length=ns.length:=by rw[hp2.length_eq,YK]
  refine Zz76 (out:=p.toList.map λi=>(kas_item (kA.zip vs.toArray) i).2) I Fa Fk hak (by lia) hf ?_ (by rw[Yc];lia) λs'' m J e=>h s'' m _ _ J e (by simpa using Zz96 hv hk p.toList hb) ⟨p.toList,hp2,hp3,rfl⟩;have ha:arrOf st=p.map (kas_item (kA.zip vs.toArray)):=ha
  rw[ha,Array.map_map];exact Array.toList_inj.mp (by simp)
theorem Zx9 (I:Inv X (pins++[(a,seqObj "list" #[] e1),(kS,seqObj "list" #[] 0)]) σ H s) (Fa:FpOk X pins H a) (Fk:FpOk X pins H kS) (hak:a≠kS) (hv:IntsAre vs ns) (h64:ns.length<64)
  (turn:∀(pl:List (Addr × Obj)) (z:Int) (t:Tok) (s':Shared),z∈ns->Inv X (pins++pl) σ H s'->wpAny (model X.prog X.w) A (call f [.int z t]) (λv s''=>∃ t',v=.int (key z) t'/\Inv X (pins++pl) σ H s'') (λ_ _=>False) s')
  (h:∀ s' m out ms,Inv X pins σ H s'->s'.heap.get? a=some (seqObj "list" out m)->IntsAre out.toList ms->Zz710 key ns ms->P (.done (.ret .none)) s') :
  wpAny (model X.prog X.w) A (ksk_rest a f false vs.toArray e1 (.ref kS)) P E s:=by
 have hsl:sizeLine=16777216:=Y0W;have hvl:=hv.length
 unfold ksk_rest;refine Yy0 (Y2p ?_);rw[<- Array.forIn_toList];simp only [List.toList_toArray];refine Yy0 (ksk_fold (λi s'=>∃(kA:Array Value) (e:Nat),Inv X (pins++[(a,seqObj "list" #[] e1),(kS,seqObj "list" kA e)]) σ H s'/\IntsAre kA.toList ((ns.take i).map key)) vs 0 s ⟨#[],0,I,by simpa using IntsAre.nil⟩ ?step ?done)
 case step =>
  rintro j x s' hx ⟨kA,e,J,hk⟩;rw[Y1q]at hk ⊢;have hj:j<ns.length:=by rw[<- hvl];exact(Yy3.mp hx).1
  obtain⟨t,ht⟩:=Zh4 hv j hj;rw[hx]at ht;obtain rfl:=Yd ht;have hz:kA.size<=j:=by have h1:=hk.length;rw[YA,Yc,YI]at h1;lia
  have eg:ns.getD j 0=ns[j]:=by rw[Yy7,Yy2 hj];rfl
  have hmem:ns.getD j 0∈ns:=by rw[eg];exact Y0R hj
  refine Yy0 (Y1H (Y0x (turn _ _ t s' hmem J) (λv s'' he=>?_) λ_ _ hF=>hF.elim));obtain⟨t2,rfl,J2⟩:=he;dsimp only;have pk:=(J2.pin (kS,seqObj "list" kA e) (by simp)).1
  obtain⟨c2,hc2⟩:∃ c2,(s''.heap.update kS (Obj.mapSeq (·.push (.int (key (ns.getD j 0)) t2)))).get? kS=some (seqObj "list" (kA.push (.int (key (ns.getD j 0)) t2)) c2):=⟨_,Y3f pk (·.push (.int (key (ns.getD j 0)) t2))⟩;refine Yy0 (Y1X pk rfl ?_ (by lia) (by rw[Array.size_push];lia));refine Yf ⟨rfl,kA.push (.int (key (ns.getD j 0)) t2),c2,?_,?_⟩
  .have J3:Inv X (pins++[(a,seqObj "list" #[] e1)]) σ H s'':=J2.pins_of λp hp=>J2.pin p (Yb _ (by
    rcases Ya.mp hp with hp | hp
    .exact Yg _ hp
    .exact Yb _ (by rw[Yy1.mp hp];exact Yk)))
   have Fk2:FpOk X (pins++[(a,seqObj "list" #[] e1)]) H kS:=Fk.more λp hp=>by rw [Yy1.mp hp];exact hak
   have J4:=(J3.changed (t':=s''.toks) Fk2 λc o hc q=>(YN s''.heap (Obj.mapSeq (·.push (.int (key (ns.getD j 0)) t2))) (YR hc)).trans q).pin1 Fk2 hc2 λv z=>by cases z
   rwa[Yy09]at J4
  .have ek:(ns.take (j+1)).map key=(ns.take j).map key++[key (ns.getD j 0)]:=by rw[List.take_add_one,Yy2 hj,YC,eg];rfl
   rw[Y2K,ek];exact ksk_snoc hk
 case done =>
  rintro s' ⟨kA,e,J,hk⟩;rw[Y1q,hvl,QP]at hk;have pk:=(J.pin (kS,seqObj "list" kA e) (by simp)).1
  refine Yy0 (listItems_at pk rfl ?_);exact Zj11 J Fa Fk hak hv h64 hk h
theorem Zw9 (I:Inv X pins σ H s) (Fa:FpOk X pins H a) (ho:s.heap.get? a=some (seqObj "list" vs.toArray n)) (hv:IntsAre vs ns) (h64:ns.length<64)
  (turn:∀(pl:List (Addr × Obj)) (z:Int) (t:Tok) (s':Shared),z∈ns->Inv X (pins++pl) σ H s'->wpAny (model X.prog X.w) A (call f [.int z t]) (λv s''=>∃ t',v=.int (key z) t'/\Inv X (pins++pl) σ H s'') (λ_ _=>False) s')
  (h:∀ s' m out ms,Inv X pins σ H s'->s'.heap.get? a=some (seqObj "list" out m)->IntsAre out.toList ms->Zz710 key ns ms->P (.done (.ret .none)) s') :
  wpAny (model X.prog X.w) A (ksk_tree a f false) P E s:=by
 have hsl:sizeLine=16777216:=Y0W;have hvl:=hv.length
 obtain⟨e1,ho1⟩:∃ e1,(s.heap.update a (Obj.mapSeq λ_=>(#[]:Array Value))).get? a=some (seqObj "list" #[] e1):=⟨_,Y3f ho λ_=>#[]⟩;have I1:Inv X pins σ H { s with heap:=s.heap.update a (Obj.mapSeq λ_=>(#[]:Array Value)),toks:=s.toks }:=I.changed Fa λc o hc q=>(YN _ _ (YR hc)).trans q
 have I2:Inv X pins σ H { s with heap:=(s.heap.update a (Obj.mapSeq λ_=>(#[]:Array Value))).push (seqObj "tuple" vs.toArray 0),toks:=s.toks }:=I1.kept λc o q=>Yy4 _ q;have ho2:((s.heap.update a (Obj.mapSeq λ_=>(#[]:Array Value))).push (seqObj "tuple" vs.toArray 0)).get? a=some (seqObj "list" #[] e1):=Yy4 _ ho1
 unfold ksk_tree;refine Yy0 (listItems_at ho rfl ?_);refine Yy0 (Y1X ho rfl ?_ (by rw[Yy9];lia) (Yl _));refine Yy0 (seqEpoch_at ho1 rfl ?_);refine Yy0 (wpAny_newTuple ?_ (by show vs.length<=_;omega));refine Yy0 (Yy23 ?_ (Yl _));refine Y0D ?_;have Fk:FpOk X pins H ((s.heap.update a (Obj.mapSeq λ_=>(#[]:Array Value))).push (seqObj "tuple" vs.toArray 0)).objs.size:=I2.fpOk (Yy6 _) (I2.hok.fresh (Yy6 _))
 have hak:a≠((s.heap.update a (Obj.mapSeq λ_=>(#[]:Array Value))).push (seqObj "tuple" vs.toArray 0)).objs.size:=Yo (Yh ho2);have I3:Inv X pins σ H { s with heap:=((s.heap.update a (Obj.mapSeq λ_=>(#[]:Array Value))).push (seqObj "tuple" vs.toArray 0)).push (seqObj "list" #[] 0),toks:=s.toks }:=I2.kept λc o q=>Yy4 _ q
 have I4:=(I3.pin1 Fa (Yy4 _ ho2) λv z=>by cases z).pin1 (Fk.more (pl:=[(a,seqObj "list" #[] e1)]) λp hp=>by rw [Yy1.mp hp];exact hak) (Yj _ rfl) λv z=>by cases z
 rw[Yy09]at I4;exact Zx9 I4 Fa Fk hak hv h64 turn h
theorem Zr5 {tp q:Addr} {ot:Obj} {Q:Ae} (I:Inv X pins σ H s) (ht:s.heap.get? tp=some ot) (hc:ot.cls=.type "tuple") (hd:ot.data=.seq vs.toArray m) (hv:IntsAre vs ns) (h64:ns.length<64)
  (turn:∀(pl:List (Addr × Obj)) (z:Int) (t:Tok) (s':Shared),z∈ns->Inv X (pins++pl) σ H s'->wpAny (model X.prog X.w) A.in1.in1 (call (.ref q) [.int z t]) (λv s''=>∃ t',v=.int (key z) t'/\Inv X (pins++pl) σ H s'') (λ_ _=>False) s')
  (h:∀ s' a m out ms,FpOk X pins H a->Inv X pins σ H s'->s'.heap.get? a=some (seqObj "list" out m)->IntsAre out.toList ms->Zz710 key ns ms->Q (.ref a) s') :
  wpAny (model X.prog X.w) A (call (.builtin "sorted") [.ref tp] [(Str.ofString "key",.ref q)]) Q E s:=by
 have hsl:sizeLine=16777216:=Y0W;have hvl:=hv.length
 refine call_function_entry_kw kind_sorted plain_sorted entry_sorted (ksk_s1 _ _) ?_;unfold Builtin.«sorted»;refine Yy0 (m:=checkCount "sorted" 1 1 _) (Yf ?_);refine Yy0 (Zz35 ht hc hd (by omega) ?_);refine Yy0 (Yy23 ?_ (by omega));have hsz:((s.heap.push (seqObj "list" #[] 0)).update s.heap.objs.size (Obj.mapSeq (·++vs.toArray))).objs.size=s.heap.objs.size+1:=by rw[Heap.size_update,size_push']
 have hoL:(((s.heap.push (seqObj "list" #[] 0)).update s.heap.objs.size (Obj.mapSeq (·++vs.toArray))).push (seqObj "list" vs.toArray 0)).get? (s.heap.objs.size+1)=some (seqObj "list" vs.toArray 0):=by rw[<- hsz];exact Yj _ rfl
 have keep:∀ b o,s.heap.get? b=some o->(((s.heap.push (seqObj "list" #[] 0)).update s.heap.objs.size (Obj.mapSeq (·++vs.toArray))).push (seqObj "list" vs.toArray 0)).get? b=some o:=λb o q=>by have hlt:b<s.heap.objs.size:=Yh q;exact Yy4 _ ((YN _ _ (Y0u hlt)).trans (Yy4 _ q))
 show wpAny _ _ _ _ _ { s with heap:=((s.heap.push (seqObj "list" #[] 0)).update s.heap.objs.size (Obj.mapSeq (·++vs.toArray))).push (seqObj "list" vs.toArray 0) };rw[hsz];have Fa:FpOk X pins H (s.heap.objs.size+1):=I.fpOk (Y0P _) (I.hok.fresh (Y0P _))
 refine Yy0 (Y0D (wpAny_call_entry_kw slot_list_sort ⟨_,hoL,rfl⟩ entry_list_sort ?body (ksk_l1 _ _)));show wpAny (model X.prog X.w) A.in1.in1 (Builtin.«list.sort» ⟨[.ref (s.heap.objs.size+1)],[(Str.ofString "key",.ref q)]⟩) _ _ _
 rw[ksk_t1];refine Zw9 (s:={ s with heap:=((s.heap.push (seqObj "list" #[] 0)).update s.heap.objs.size (Obj.mapSeq (·++vs.toArray))).push (seqObj "list" vs.toArray 0),toks:=s.toks }) (I.kept keep) Fa hoL hv h64 turn λs' m out ms J e hi hs=>⟨_,rfl,?_⟩;exact Yf ⟨_,rfl,h s' _ m out ms Fa J e hi hs⟩
end
def CdO(c:Addr)(qual:Str):HO:=.ext λh=>h.CodeRec (.ref c) qual
def TabH(H:Hp)(Pt:Addr)(pos:Pos)(qual:Str):Prop:=∃ ps:Array Value,H Pt=some (.tbl ps)/\TriplesOk ps.toList/\(codeAmong pos ps.toList=none\/∃ c,codeAmong pos ps.toList=some (.ref c)/\H c=some (CdO c qual))
def SameX(Pt:Addr)(H H':Hp):Prop:=∀ b o,b≠Pt->H b=some o->H' b=some o
theorem Ze2{c:Addr}(h1 h2:Heap)(r:h1.CodeRec (.ref c) qual)(k:∀ o,h1.get? c=some o->h2.get? c=some o):h2.CodeRec (.ref c) qual:=by obtain⟨c2,o,vs,t,e,g,r⟩:=r;cases e;exact⟨c,o,vs,t,rfl,k _ g,r⟩
section
variable{X:Cx}{pins:List (Addr × Obj)}{σ:St}{H:Hp}{s:Shared}{c Pt cc:Addr}{x:Str}{params:Arguments}{body:Expr}{scope:Scope}{pos:Pos}{E:Ae}{Q:Ae}
theorem Inv.builtinsAt(I:Inv X pins σ H s)(hB:X.base.BuiltinsAt X.mg Pt):s.heap.BuiltinsAt X.mg Pt:=by obtain⟨bm,o,h1,h2,h3,h4,h5,h6⟩:=hB;exact⟨bm,o,h1,h2,h3,h4,I.bk _ _ h5,h6⟩
theorem Zu9 (I:Inv X pins σ H s) (hcode:X.env.code=.ref c) (hC:codeHdIn X.K c Pt=true) (hB:X.base.BuiltinsAt X.mg Pt) (hT:TabH H Pt pos (X.env.qual++Str.ofString "<lambda>")) (hcl:closureFor scope X.env=pure [(x,cc)]) (hdef:defaultsOf params X.env=([],[])) (hPg:mainGlobals≠Pt)
  (h:∀ f c' pm ctv s' H',SameX Pt H H'->TabH H' Pt pos (X.env.qual++Str.ofString "<lambda>")->FpOk X pins H' f->Inv X pins σ H' s'->s'.heap.get? f=some (kla_obj (Str.ofString "<lambda>") (X.env.qual++Str.ofString "<lambda>") params body scope [(x,cc)] pm c' ctv)->H' c'=some (CdO c' (X.env.qual++Str.ofString "<lambda>"))->Q (.ref f) s') :
  wpAny (model X.prog X.w) X.A (eval (.Lambda params body scope pos) X.env) Q E s:=by
 obtain⟨ps,hP,htr,hcase⟩:=hT;have hPo:s.heap.get? Pt=some (tabObj ps):=I.hok Pt _ hP
 have hns:s.heap.Ns mainGlobals X.mg:=I.mod.glob.keeps I.bk;have hHd:=codeHd_of_K I.kIn hC
 refine kla_eval hdef ?_;rcases hcase with hnf | ⟨c',hf,hc'⟩
 .refine kla_makeFunction hcl I.ok.glob hns hcode hHd hPo htr hnf hPg (I.builtinsAt hB) λc' ctv h' tk hx hge hlt hrec htb=>?_;have hPl:Pt<s.heap.objs.size:=Yh hPo
  have hcn:H c'=none:=I.hok.fresh hge;have hcP:c'≠Pt:=Y0u (Ym hPl hge)
  have keep:∀ b o,b≠Pt->s.heap.get? b=some o->(h'.push (kla_obj (Str.ofString "<lambda>") (X.env.qual++Str.ofString "<lambda>") params body scope [(x,cc)] ((X.mg "__name__").getD .none) c' ctv)).get? b=some o:=λb o hb e=>Yy4 _ (hx b o hb e);have sx:SameX Pt H (upd (upd H Pt (.tbl (ps++#[rawInt pos.line,rawInt pos.col,.ref c']))) c' (CdO c' (X.env.qual++Str.ofString "<lambda>"))):=λb o hb e=>by rwa[Zz9 (Zb e hcn),Zz9 hb]
  have tb:TabH (upd (upd H Pt (.tbl (ps++#[rawInt pos.line,rawInt pos.col,.ref c']))) c' (CdO c' (X.env.qual++Str.ofString "<lambda>"))) Pt pos (X.env.qual++Str.ofString "<lambda>"):=by
   have et:(ps++#[rawInt pos.line,rawInt pos.col,Value.ref c']).toList=ps.toList++[rawInt pos.line,rawInt pos.col,.ref c']:=by simp
   refine⟨ps++#[rawInt pos.line,rawInt pos.col,.ref c'],by rw[Zz9 (YR hcP),Zz1],by rw[et];exact TriplesOk_snoc _ _ _ _ htr,.inr ⟨c',by rw[et];exact codeAmong_snoc _ htr hnf,Zz1⟩⟩
  have notP:∀ b,H b=none->b≠Pt:=λb n z=>by rw[z,hP]at n;cases n
  refine h h'.objs.size c' _ ctv _ _ sx tb ?_ (I.un ⟨λb o e n _ _=>keep b o (notP b n) e,λb o e n _ _=>⟨o.slots,keep b o (notP b n) e⟩,λb o e n _=>?_,λb o e _=>?_,λb xs e=>?_,λb o u e=>?_,λb qs e=>?_⟩ λb u e=>?_) (Yj _ rfl) Zz1
  .have hfs:s.heap.objs.size<=h'.objs.size:=by lia
   refine I.fpOk hfs ?_;rw[Zz9 (Y0u hlt),Zz9 (Y0u (Ym hPl hfs))];exact I.hok.fresh hfs
  .rw[Zz9 (Yo (Ym (Yh e) hge)),Zz9 (notP b n)];exact n
  .by_cases hb:b=Pt
   .rw[hb];exact⟨_,Yy4 _ htb⟩
   .exact⟨o,keep b o hb e⟩
  .exact sx b _ (λz=>by rw[z,hP]at e;cases e) e
  .exact sx b _ (λz=>by rw[z,hP]at e;cases e) e
  .by_cases hb:b=Pt
   .subst hb;rw[hP]at e;obtain rfl:ps=qs:=by cases e;rfl
    exact⟨#[rawInt pos.line,rawInt pos.col,.ref c'],by rw[Zz9 (YR hcP),Zz1]⟩
   .exact⟨#[],by rw[sx b _ hb e];simp⟩
  .by_cases hb:b=c'
   .subst hb;rw[Zz1]at e;cases e;refine⟨Ze2 _ _ hrec λo g=>Yy4 _ g,?_,Ze2⟩;obtain⟨c2,o,_,_,e2,g,_⟩:=hrec;cases e2;exact⟨o,Yy4 _ g⟩
   .rw[Zz9 hb]at e;by_cases hb2:b=Pt
    .subst hb2;rw[Zz1]at e;cases e;exact Yy4 _ htb
    .rw[Zz9 hb2]at e;refine(I.hok b u e).stay (λd o hd g=>keep d o (λz=>?_) g) (λd g=>sx d _ (λz=>by rw[z,hP]at g;cases g) g) λd xs g=>sx d _ (λz=>by rw[z,hP]at g;cases g) g;rcases hd with hd | hd
     .exact hb2 (hd.symm.trans z)
     .rw[z,hP]at hd;cases hd
 .refine kla_makeFunctionHit hcl I.ok.glob hns hcode hHd hPo htr hf (I.builtinsAt hB) λctv h' tk hk hsz=>?_;refine h h'.objs.size c' _ ctv _ H (λ_ _ _ e=>e) ⟨ps,hP,htr,.inr ⟨c',hf,hc'⟩⟩ (I.fpOk hsz (I.hok.fresh hsz)) (I.kept λb o e=>Yy4 _ (hk b o e)) (Yj _ rfl) hc'
end
def Zd12(K:Ad)(Pt:Addr)(lpos:Pos)(qual:Str)(i:Nat)(te tb:TE):TE:=λσ H Q=>te σ H λy H1=>∃(p:Addr) (ns:Ac) (vx:V) (key:Int->Int),y=.ref p/\SqT K H1 p (ns.map V.int)/\ns.length<64/\TabH H1 Pt lpos qual/\σ[i]?=some (some vx) /\
 (∀ H2,SameX Pt H1 H2->∀ z∈ns,tb [some (.int z),some vx] H2 λr H3=>r=.int (key z)/\H3=H2) /\
 ∀(ms:Ac) (l:Addr) (H2:Hp),Zz710 key ns ms->SameX Pt H1 H2->TabH H2 Pt lpos qual->H2 l=none->Q (.ref l) (upd H2 l (.lst (ms.map V.int)))
section
variable{X:Cx}{p kp pos lpos:Pos}{e body:Expr}{params:Arguments}{scope:Scope}{te tb:TE}{v x:Str}{i k:Nat}{c Pt cc:Addr}
theorem SqT.samex{K:Ad}{H H2:Hp}{a:Addr}{xs:List V}{qual:Str}(h:SqT K H a xs)(t:TabH H Pt lpos qual)(sx:SameX Pt H H2):SqT K H2 a xs:=by
 obtain⟨ps,hP,_⟩:=t;rcases h with (h | ⟨o,h⟩) | h
 .exact .inl (.inl (sx _ _ (λz=>by rw[z,hP]at h;cases h) h))
 .exact .inl (.inr ⟨o,sx _ _ (λz=>by rw[z,hP]at h;cases h) h⟩)
 .exact .inr h
theorem ZJ5 (he:PE X e te) (hg:Gl X (Str.ofString "sorted")) (hm:X.mg (Str.ofString "sorted")=none) (hr:Room (k+3) X.A) (hex:X.ex=[]) (hcode:X.env.code=.ref c) (hC:codeHdIn X.K c Pt=true) (hB:X.base.BuiltinsAt X.mg Pt) (hPg:mainGlobals≠Pt)
  (S:LamScope v x scope) (hcl:closureFor scope X.env=pure [(x,cc)]) (hdef:defaultsOf params X.env=([],[])) (hbind:∀(c':Addr) (pm ctv u:Value),bindArgs (kla_fn (Str.ofString "<lambda>") (X.env.qual++Str.ofString "<lambda>") params body scope [(x,cc)] pm (.ref c') ctv) ⟨[u],[]⟩=pure [(v,u)])
  (hi:X.N[i]?=some x) (hkx:X.env.kindOf x=some .cell) (hcx:X.env.cells.lookup x=some cc)
  (hb:∀(f c':Addr) (A:Around) (outer:List Env) (s:Shared) (H:Hp),Room k (A.deeper (envX (X.env.qual++Str.ofString "<lambda>") scope s.heap.objs.size f (.ref c') [(x,cc)]))->PE (ZN11 X.prog X.w X.K X.mg X.base [v,x] (X.env.qual++Str.ofString "<lambda>") scope f (.ref c') [(x,cc)] A outer s H) body tb) (hs:starEach [e] X.env=[(false,eval e X.env)]:=by rfl) :
  PE X (.Call (.Name (Str.ofString "sorted") p) [e] [⟨some (Str.ofString "key"),.Lambda params body scope lpos,kp⟩] pos) (Zd12 X.K Pt lpos (X.env.qual++Str.ofString "<lambda>") i te tb):=by
 intro pins s σ H Q I h;refine Y0E (Zz62 I hg hm Boot.«sorted» ?_ (by decide) (by decide));have ha:PA X [e] (Zh12 te tNil):=Zz0 he Zz3 hs
 refine callWith_kw (thn (ha pos pins s σ H (λvs H1=>match vs with
  | [y]=>∃(p:Addr) (ns:Ac) (vx:V) (key:Int->Int),y=.ref p/\SqT X.K H1 p (ns.map V.int)/\ns.length<64/\TabH H1 Pt lpos (X.env.qual++Str.ofString "<lambda>")/\σ[i]?=some (some vx) /\
   (∀ H2,SameX Pt H1 H2->∀ z∈ns,tb [some (.int z),some vx] H2 λr H3=>r=.int (key z)/\H3=H2) /\
   ∀(ms:Ac) (l:Addr) (H2:Hp),Zz710 key ns ms->SameX Pt H1 H2->TabH H2 Pt lpos (X.env.qual++Str.ofString "<lambda>")->H2 l=none->Q (.ref l) (upd H2 l (.lst (ms.map V.int)))
  | _=>False) I h) λus s1 hh=>?_) (by rw[hs];rfl) (by rw[hs];rfl) rfl rfl
 obtain⟨vs,H1,I1,r,q⟩:=hh
 match vs,r,q with
 | [],_,q=>exact False.elim q
 | _ :: _ :: _,_,q=>exact False.elim q
 | [y],r,q =>
  obtain⟨p2,ns,vx,key,rfl,hq,h64,hT,hσ,hk,q⟩:=q;obtain⟨u,rfl,ru⟩:=Zk3 r;obtain rfl:u=Value.ref p2:=ru;refine kws_cons (Zu9 I1 hcode hC hB hT hcl hdef hPg λf c' pm ctv s2 H2 sx tab F I2 hf hc'=>kws_nil ?_);have I3:=I2.pin1 F hf λv z=>by cases z
  have hq2:=SqT.samex hq hT sx;obtain⟨its,rv,⟨ot,g1,g2,m,g3⟩,hz⟩:=I2.tuple hq2;have hv:=ZA rv
  refine Zr5 I3 g1 g2 g3 hv h64 (key:=key) (λpl z t s3 hmem J=>?_) λs3 a m out ms Fa J hg2 hout hst=>?_
  .-- the lambda called
   have hob:s3.heap.get? f=some (kla_obj (Str.ofString "<lambda>") (X.env.qual++Str.ofString "<lambda>") params body scope [(x,cc)] pm c' ctv):=(J.pin (f,_) (Yb _ (Yg _ (Yb _ Yk)))).1;obtain⟨mm,_,hloc⟩:=J.loc;obtain⟨ux,rx,hlook⟩:=hloc i x vx hi hσ (.inr (.inl hkx));have hcell:s3.heap.IsCell cc (some ux):=by
    rcases hlook with ⟨kz,_⟩ | ⟨_,c2,e2,hc2⟩
    .rw[hkx]at kz;cases kz
    .rw[hcx]at e2;cases e2;exact hc2
   have hrec:s3.heap.CodeRec (.ref c') (X.env.qual++Str.ofString "<lambda>"):=(J.hok c' _ hc').1;have hr2:Room (k+1) X.A.in1.in1:=(hr.in1).in1
   refine Y3q (Y1l (Zi11 (u:=.int z t) (vv:=.int z) S hr2 J.env0.in1.in1 hob hrec (hbind c' pm ctv _) hcell rx (J.freeC x cc hcx) ⟨t,rfl⟩ (hb f c' _ _ s3 H2 (hr2.deeper _)) (hk H2 sx z hmem)) λrr s4 hh=>?_);obtain⟨u',rfl,ce⟩:=hh;obtain⟨v',H',J',rv',e1,e2⟩:=J.after ce;subst e1 e2;obtain⟨t',rfl⟩:=rv';exact⟨t',rfl,J'⟩
  .have J0:Inv X pins σ H2 s3:=J.unpinned;have Fa0:FpOk X pins H2 a:=⟨Fa.1,Fa.2.1,Fa.2.2.1,Fa.2.2.2.1,Fa.2.2.2.2.1,λp hp=>Fa.2.2.2.2.2 p (by
    rcases Ya.mp hp with hp | hp
    .exact Yg _ hp
    .exact Yb _ (Yg _ hp))⟩
   have hml:ms.length=ns.length:=by obtain⟨pp,h1,_,rfl⟩:=hst;rw[Yc,h1.length_eq,YK]
   refine⟨.ref a,_,J0.adopt hex Fa0 (u:=.lst (ms.map V.int)) ⟨?_,out.toList,m,Za1 hout,by simpa using hg2⟩,rfl,q ms a H2 hst sx tab Fa.1⟩;rw[Yc,hml]
   have:sizeLine=16777216:=Y0W
   lia
end
def Zz513(Pt:Addr)(H:Hp):Prop:=H Pt=some (.tbl #[])/\∀ b,b=Pt\/H b=none\/∃ o xs,H b=some (.frz o (.lst xs))
theorem Zl7{P:Program}{w:World}{K:Ad}{mg mb:Af}{CX:CXT}{k:Nat}{fa a Pt c:Addr}{fd:FuncData}{x:Str}{sp:Sp}{s₁:Shared}{vs:Ag}{ns:Ac}
  (KX:K.In s₁.heap) (hns:s₁.heap.Ns mainGlobals mg) (hb:s₁.heap.Ns builtinsNs mb) (hbb:∀ x:Str,x≠"__name__"->mb x=bootBuiltins x) (hlim:s₁.heap.NoLimit) (hg:s₁.gens=#[])
  (hT:s₁.heap.get? Pt=some (tabObj #[])) (hC:codeHdIn K c Pt=true) (hKP:K.lookup Pt=none) (hbm:∃ bm ob,mg (Str.ofString "__builtins__")=some (.ref bm)/\bm≠builtinsNs/\s₁.heap.get? bm=some ob/\ob.cls=.type "module"/\ob.dict=some builtinsNs/\ob.data=.plain)
  (ha:s₁.heap.get? a=some { cls:=.type "list",data:=.seq vs.toArray }) (hi:IntsAre vs ns) (hl:ns.length<=sizeLine) (hr:Room k callerA)
  (F:∀ base:Heap,K.In base->base.Ns mainGlobals mg->base.BuiltinsAt mg Pt->FnOk P w K mg base CX k fa fd [x] sp) (hbind:∀(s:Shared) (u:Value),BindsTo s fd ⟨[u],[]⟩ [(x,u)])
  (hsp:∀ H:Hp,Zz513 Pt H->SqL K H a (ns.map V.int)->sp [.ref a] H (λv _=>v=.bl true) λ_ _ _=>False)
  (hCX:∀ H e s',CX [] H s₁ (λ_ _ _=>False) e s'->False) :
  codeAny (model P w) callerA (.call (.ref fa) ⟨[.ref a],[]⟩) (λr s'=>r=.ok (.ret (.bool true))/\OldK s₁.heap s'.heap/\s'.os=s₁.os/\AllBare s'.gens) s₁:=by
 have rv:=ZU3 hi;have lenV:=hi.length
 have haP:a≠Pt:=λz=>by rw[z,hT]at ha;cases ha
 have core:∀ H:Hp,Zz513 Pt H->SqL K H a (ns.map V.int)->HOk P w H s₁.heap->(∀ b,H b≠none->b=a\/b=Pt)->(H a≠none->K.lookup a=none) ->
   codeAny (model P w) callerA (.call (.ref fa) ⟨[.ref a],[]⟩) (λr s'=>r=.ok (.ret (.bool true))/\OldK s₁.heap s'.heap/\s'.os=s₁.os/\AllBare s'.gens) s₁:=by
  intro H hO hS hok hA hK;have base_of:∀ {b:Addr} {o:Obj},s₁.heap.get? b=some o->H b=none->(hidT s₁.heap H).get? b=some o:=λe n=>ZC9 e n
  have free:∀ {b:Addr} {o:Obj},s₁.heap.get? b=some o->(∀ its n,o.data≠.seq its n)->(∀ vs,o.data≠.fields vs)->H b=none:=λ{b o} e d1 d2=>by
   cases q:H b with
   | none=>rfl
   | some u =>
    rcases hA b (by rw[q];simp) with e' | e'
    .subst e';rw[ha]at e;cases e;exact absurd rfl (d1 _ _)
    .subst e';rw[hT]at e;cases e;exact absurd rfl (d2 _)
  have nsK:∀ {b:Addr} {m:Af},s₁.heap.Ns b m->(hidT s₁.heap H).Ns b m:=λ{b m} ⟨o,es,ep,e,d,r⟩=>⟨o,es,ep,base_of e (free e (λ_ _ z=>by rw[d]at z;cases z) λ_ z=>by rw[d]at z;cases z),d,r⟩;have hKb:K.In (hidT s₁.heap H):=λb o e=>base_of (KX b o e) (by
   cases q:H b with
   | none=>rfl
   | some u =>
    rcases hA b (by rw[q];simp) with e' | e'
    .subst e';rw[hK (by rw[q];simp)]at e;cases e
    .subst e';rw[hKP]at e;cases e)
  have hM:Mod K mg (hidT s₁.heap H):=⟨hKb,nsK hns,⟨mb,nsK hb,hbb⟩,let ⟨mc,h1,h2⟩:=hlim;⟨mc,nsK h1,h2⟩⟩;have hB:(hidT s₁.heap H).BuiltinsAt mg Pt:=by
   obtain⟨bm,ob,b1,b2,b3,b4,b5,b6⟩:=hbm;refine⟨bm,ob,b1,b2,λz=>?_,λz=>?_,base_of b3 (free b3 (λ_ _ z=>by rw[b6]at z;cases z) λ_ z=>by rw[b6]at z;cases z),b4,b5,b6⟩
   .obtain⟨o,es,ep,e,d,_⟩:=hns;rw[z,e]at b3;cases b3;rw[d]at b6;cases b6
   .rw[z,hT]at b3;cases b3;cases b4
  have e0:Env0 P w K mg (hidT s₁.heap H) callerA [] s₁ H:=⟨rfl,hM,λb o e=>Zz111 e,Nat.le_of_eq (Zt7 _ _),trivial,λb hb=>absurd (show b∈([]:List Addr) from hb) (by simp),hok,.of_eq hg⟩;refine Y1l ((F _ hKb (nsK hns) hB).run callerA [] s₁ H ⟨[.ref a],[]⟩ [.ref a] [.ref a] _ _ hr e0 (hbind s₁ (.ref a)) (.cons rfl .nil) (hsp H hO hS)) λr s' h=>?_;cases r with
  | error e=>exact(hCX H e s' h).elim
  | ok fl =>
   cases fl with
   | next=>exact False.elim h
   | brk=>exact False.elim h
   | cont=>exact False.elim h
   | ret u =>
    obtain⟨v,H',os,bare,un,hok',r',q⟩:=h;have q':v=.bl true:=q
    subst q';obtain rfl:u=Value.bool true:=r';obtain⟨more,eP⟩:=un.tbls Pt #[] hO.1;have hP':s'.heap.get? Pt=some { cls:=.none,data:=.fields (#[]++more) }:=hok' Pt _ eP
    have kept:∀ b o,b≠Pt->s₁.heap.get? b=some o->s'.heap.get? b=some o:=λb o hbP e=>by
     cases q:H b with
     | none=>exact un.keep b o e q (by intro z;exact absurd (show b∈([]:List Addr) from z) (by simp)) (by simp)
     | some u =>
      rcases hO.2 b with z | z | ⟨ob,xs,z⟩
      .exact absurd z hbP
      .rw[q]at z;cases z
      .have z2:=un.frzs b ob _ z;obtain⟨e1,_⟩:=hok b _ z;obtain⟨e2,_⟩:=hok' b _ z2;rw[e]at e1;cases e1;exact e2
    refine⟨rfl,⟨λb o e=>?_,λb o e=>?_⟩,os,bare⟩
    .by_cases hbP:b=Pt
     .subst hbP;rw[hT]at e;obtain rfl:=Yd e;obtain⟨oc,vsc,_,_,_,_,_,_,_,c1,c2,c3,c4,_⟩:=codeHd_of_K KX hC;exact .inr (.inl ⟨⟨c,oc,vsc,c1,c2,c3,c4⟩,rfl,#[],more,rfl,hP'⟩)
     .exact .inl (kept b o hbP e)
    .by_cases hbP:b=Pt
     .rw[hbP];exact⟨_,hP'⟩
     .exact⟨o,kept b o hbP e⟩
 cases hk:K.lookup a with
 | some o =>
  have e:=KX a o hk;rw[ha]at e;cases e;refine core (λb=>if b=Pt then some (.tbl #[]) else none) ⟨if_pos rfl,λb=>?_⟩ (.inr ⟨_,vs.toArray,_,hk,rfl,rfl,rfl,by rw[Yy9,lenV];exact hl,by simpa using rv⟩) (λb u z=>?_) (λb z=>?_) λz=>absurd (if_neg haP) z
  .by_cases hbP:b=Pt
   .exact .inl hbP
   .exact .inr (.inl (if_neg hbP))
  .by_cases hbP:b=Pt
   .have z':=(if_pos hbP).symm.trans z;cases z';subst hbP;exact hT
   .have z':=(if_neg hbP).symm.trans z;cases z'
  .by_cases hbP:b=Pt
   .exact .inr hbP
   .exact absurd (if_neg hbP) z
 | none =>
  refine core (λb=>if b=Pt then some (.tbl #[]) else if b=a then some (.frz { cls:=.type "list",data:=.seq vs.toArray } (.lst (ns.map V.int))) else none) ⟨if_pos rfl,λb=>?_⟩ (.inl (.inr ⟨{ cls:=.type "list",data:=.seq vs.toArray },(if_neg haP).trans (if_pos rfl)⟩)) (λb u z=>?_) (λb z=>?_) λ_=>hk
  .by_cases hbP:b=Pt
   .exact .inl hbP
   .by_cases hb:b=a
    .exact .inr (.inr ⟨_,_,(if_neg hbP).trans (if_pos hb)⟩)
    .exact .inr (.inl ((if_neg hbP).trans (if_neg hb)))
  .by_cases hbP:b=Pt
   .have z':=(if_pos hbP).symm.trans z;cases z';subst hbP;exact hT
   .by_cases hb:b=a
    .have z':=((if_neg hbP).trans (if_pos hb)).symm.trans z;cases z';subst hb;exact⟨ha,by rw[Yc];exact hl,vs,_,rv,ha⟩
    .have z':=((if_neg hbP).trans (if_neg hb)).symm.trans z;cases z'
  .by_cases hbP:b=Pt
   .exact .inr hbP
   .by_cases hb:b=a
    .exact .inl hb
    .exact absurd ((if_neg hbP).trans (if_neg hb)) z
theorem walk_ofT{l:PySem.W.OpenLaw}{n k:Nat}{q:Program}{loose:List Str}{XP:Af->Heap->Prop}{YP:World->Heap->Prop}{d:DefRec}{K:Params->Ad}{CX:CXT}{sp:Ad->Sp}{x:Str}{c Pt:Addr}
  (hn:l.most=some n) (hn2:n<=sizeLine) (hdf:d.params.defaults=[]) (hr:Room k callerA)
  (hY:∀(w:World) (h:Heap),YP w h->(K w.params).In h/\h.get? Pt=some (tabObj #[])) (hC:∀ w:World,codeHdIn (K w.params) c Pt=true) (hKP:∀ w:World,(K w.params).lookup Pt=none)
  (F:∀(w:World) (mg:Af) (fa:Addr) (h:Heap),(K w.params).In h->h.Ns mainGlobals mg->mg d.name=some (.ref fa) ->
   ∃ fd:FuncData,(∀(s:Shared) (u:Value),BindsTo s fd ⟨[u],[]⟩ [(x,u)]) /\
    ∀ base:Heap,(K w.params).In base->base.Ns mainGlobals mg->base.BuiltinsAt mg Pt->FnOk l.prog w (K w.params) mg base CX k fa fd [x] (sp (K w.params)))
  (hsp:∀(w:World) (H:Hp) (a:Addr) (ns:Ac),ns.length<=n->Zz513 Pt H->SqL (K w.params) H a (ns.map V.int)->sp (K w.params) [.ref a] H (λv _=>v=.bl true) λ_ _ _=>False)
  (hCX:∀(H:Hp) (s:Shared) (e:Value) (s':Shared),CX [] H s (λ_ _ _=>False) e s'->False) :
  PySem.W.WalkO q loose XP YP l.row.toRowW d [] (λf vs=>PySem.call f vs):=by refine Att.attach_call hn hdf λw s₀ s₁ mg mb fa o pm cd doc a vs ns G Y ho hd hcd hmg hobj hints hlen hg=>?_;obtain⟨KX,hT⟩:=hY w _ Y;obtain⟨fd,hb,hF⟩:=F w mg fa _ KX G.T.g hmg;exact Zl7 KX G.T.g G.T.b G.T.builtins G.T.nolimit hg hT (hC w) (hKP w) G.T.bmain hobj hints (YD hlen hn2) hr hF hb (λH hO hS=>hsp w H a ns hlen hO hS) λH e s'=>hCX H s₁ e s'
def Zz912(K:Ad)(mg:Af)(base:Heap)(fd:FuncData)(Pt:Addr):Prop:=∃ c,fd.code=.ref c/\codeHdIn K c Pt=true/\base.BuiltinsAt mg Pt/\mainGlobals≠Pt
theorem LamScope.of(h1:sc.kind=.function)(h2:sc.isCoroutine=false)(h3:sc.isGenerator=false)(h4:sc.names=[(v,.local),(x,.free)]\/sc.names=[(x,.free),(v,.local)])(hn:v≠x):LamScope v x sc:=by
 have b1:(v == x)=false:=Y2Z hn;have b2:(x == v)=false:=Y2Z (YR hn)
 refine⟨h1,h2,h3,λy hy=>?_,?_,?_,λy hy=>?_,hn⟩
 .have l1:NameKind.local≠NameKind.cell:=by decide
  have l2:NameKind.free≠NameKind.cell:=by decide
  rcases h4 with e | e <;> rw[e]at hy <;> rcases Ye.mp hy with rfl | hy
  .exact l1
  .rw[Yy1.mp hy];exact l2
  .exact l2
  .rw[Yy1.mp hy];exact l1
 .rcases h4 with e | e <;> rw[e] <;> simp[List.lookup,b1,b2]
 .rcases h4 with e | e <;> rw[e] <;> simp[List.lookup,b1,b2]
 .rcases h4 with e | e <;> rw[e]at hy <;> simp only [List.lookup]at hy
  .split at hy
   .cases hy
   .split at hy
    .rename_i q;exact Y0X.mp q
    .cases hy
  .split at hy
   .rename_i q;exact Y0X.mp q
   .split at hy
    .cases hy
    .cases hy
end L2
namespace My
open PySem L2
def FXL(K:Ad)(mg:Af)(x qual:Str)(st:Stmt)(Pt:Addr):Prop:=∃(f:Addr) (fd:FuncData) (c:Addr),mg x=some (.ref f)/\Fun K x qual st f fd/\fd.code=.ref c/\PySem.W.codeHdIn K c Pt=true
theorem fxl_mk{K:Ad}{h:Heap}{mg:Af}{x:Str}{st:Stmt}{f cA Pt:Addr}{oc:Value}{od an:Option Addr}{osl:Array (Option Value)}{kV doc pm ct:Value}(X:K.In h)(G:h.Ns mainGlobals mg)
  (a:PySem.W.nsIn K mainGlobals x=some (some (.ref f))) (l:K.lookup f=some ⟨oc,od,.func (PySem.W.fnOf x x (Zd2 st) (Zi1 st) (Zz4 st) .none kV doc pm an (.ref cA) ct),osl⟩) (c:PySem.W.codeIn K (.ref cA) x=true) (k:PySem.W.keepIn K (.ref f)=true) (z:PySem.W.codeHdIn K cA Pt=true):FXL K mg x x st Pt :=
 ⟨f,_,cA,Y0S X G a,ZH9 l c k,rfl,z⟩
end My
namespace L2
open PySem PySem.Spec PyProof.Rows PySem.MeetsSeq
theorem ZZ8(l:Addr)(xs:Array Value)(n:Nat)(v:Value)(g:Value->Bool)(j:Nat)(hj:j<xs.size)(yes:g xs[j]=true)(hz:xs.size<=sizeLine):∀(k i:Nat),j - i=k->i<=j->(∀ m (hm:m<xs.size),i<=m->m<j->g xs[m]=false) ->
  Meets (Builtin.«list.remove.loop» ⟨[.ref l,v,rawInt i],[]⟩) (λA R s=>s.heap.get? l=some { cls:=.type "list",dict:=none,data:=.seq xs n,slots:=#[] }/\(∀ y,y∈xs->SeqAt.EqAt A.in1 s y v (g y))/\R (.ok (.ret .none)) { s with heap:=s.heap.update l (Obj.mapSeq λys=>ys.eraseIdxIfInBounds j) }):=by
 intro k
 induction k with
 | zero =>
  intro i e1 e2 no prog w A R s h;obtain⟨hp,gs,d,tk,os⟩:=s;obtain⟨ho,he,h⟩:=h;obtain rfl:i=j:=by grind
  wp_walk using (Y0Z ho)
  have at_:xs[((i:Nat):Int).toNat]?=some xs[i]:=by simp[hj]
  rw[at_];refine Yy0 (he _ (Array.getElem_mem hj) prog w _ _ ?_);rw[yes];have hz2:(xs.eraseIdxIfInBounds i).size<=sizeLine+1:=YD (size_erased xs _) (Nat.le_succ_of_le hz)
  wp_walk using (Y2A ho rfl (hz:=hz) (_hz':=hz2)),(Y0Z ho)
  simpa using h
 | succ k ih =>
  intro i e1 e2 no prog w A R s h;obtain⟨hp,gs,d,tk,os⟩:=s;obtain⟨ho,he,h⟩:=h;have lt:i<xs.size:=by lia
  wp_walk using (Y0Z ho)
  have at_:xs[((i:Nat):Int).toNat]?=some xs[i]:=by simp[lt]
  have nx:((i:Int)+1)=((i+1:Nat):Int):=by push_cast;rfl
  rw[at_];refine Yy0 (he _ (Array.getElem_mem lt) prog w _ _ ?_);rw[no i lt (Yy6 _) (by omega)]
  wp_walk
  rw[nx];refine⟨Yy11 plain_remove_loop _,Yy01 entry_remove_loop ?_⟩;rw[Y0s plain_remove_loop _];exact ih (i+1) (by omega) (by omega) (λm hm a b=>no m hm (by omega) b) prog w A R _ ⟨ho,he,h⟩
theorem Za7(l:Addr)(xs:Array Value)(n:Nat)(v:Value)(g:Value->Bool)(j:Nat)(hj:j<xs.size)(yes:g xs[j]=true)(no:∀ m (hm:m<xs.size),m<j->g xs[m]=false)(hz:xs.size<=sizeLine) :
  Meets (Builtin.«list.remove» ⟨[.ref l,v],[]⟩) (λA R s=>s.heap.get? l=some { cls:=.type "list",dict:=none,data:=.seq xs n,slots:=#[] }/\(∀ y,y∈xs->SeqAt.EqAt A.in1 s y v (g y))/\R (.ok (.ret .none)) { s with heap:=s.heap.update l (Obj.mapSeq λys=>ys.eraseIdxIfInBounds j) }):=by
 intro prog w A R s h;obtain⟨hp,gs,d,tk,os⟩:=s;obtain⟨ho,he,h⟩:=h
 wp_walk using (Y0Z ho)
 refine⟨Yy11 plain_remove_loop _,Yy01 entry_remove_loop ?_⟩;rw[Y0s plain_remove_loop _];exact ZZ8 l xs n v g j hj yes hz _ 0 rfl (Yl _) (λm hm _ b=>no m hm b) prog w A R _ ⟨ho,he,h⟩
section
variable{X:Cx}
def ZG10(K:Ad):V->List V->Hp->VK->Prop:=λx vs H Q=>∃(n:Nat) (l:Addr) (xs:List V) (y:V) (e:Addr->Bool) (j:Nat) (a:Addr),x=.ref l/\vs=[y]/\H l=some (.lst xs)/\n<=6/\(∀ v∈xs,∃ a,v=.ref a/\EqD K H n v y (e a))/\xs[j]?=some (.ref a)/\e a=true/\(∀ m b,m<j->xs[m]?=some (.ref b)->e b=false)/\Q .non (upd H l (.lst (xs.eraseIdx j)))
theorem Vals.erase(r:Vals xs us)(j:Nat):Vals (xs.eraseIdx j) (us.eraseIdx j):=by rw[Y2D,Y2D];exact(r.take _).append (r.drop _)
theorem ZR5 (K:Ad) (hu:X.A.units+8<cLine) (hk:X.K=K:=by rfl):MtM X "list.remove" (ZG10 K):=by
 subst hk;intro pins s σ H x vs v us Q I rx rv h;obtain⟨n,l,xs,y,e,j,a,rfl,rfl,hH,hn,he,hj,hy,hno,q⟩:=h;cases rx;obtain⟨u,rfl,ru⟩:=rv.one;obtain⟨z,its,m,r,hl,ho⟩:=I.lstM hH;have hjl:j<xs.length:=(Yy3.mp hj).1
 have at_:∀(i:Nat) (hi:i<its.toArray.size),∃ b,xs[i]?=some (.ref b)/\its.toArray[i]=.ref b:=λi hi=>by
  have hi2:i<its.length:=by simpa using hi
  obtain⟨w,ew,rw'⟩:=r.at hi2;obtain⟨b,rfl,_⟩:=he w (Yy8 ew);have e3:its[i]=Value.ref b:=rw'
  exact⟨b,ew,by simpa using e3⟩
 have hjs:j<its.toArray.size:=by rw[Yy9];lia
 refine Y2Q F.slot_list_remove ⟨_,ho,rfl⟩ F.entry_list_remove (F.args_list_remove_2 _ _) (Za7 l its.toArray m u (λw=>match w with | .ref b=>e b | _=>false) j hjs ?_ ?_ (by rw[Yy9];lia)) ⟨ho,λw hw=>?_,?_⟩
 .obtain⟨b,e1,e2⟩:=at_ j hjs;rw[hj]at e1;cases e1;rwa[e2]
 .intro i hi hij;obtain⟨b,e1,e2⟩:=at_ i hi;rw[e2];exact hno i b hij e1
 .exact ZT5 I (by show X.A.units+1+n<cLine;lia) ru r he w (by simpa using hw)
 .refine⟨.non,_,I.lset (its':=its.eraseIdx j) hH ho ?_ (r.erase j) ?_,rfl,q⟩
  .rw[Array.eraseIdxIfInBounds_eq,dif_pos hjs];apply Array.ext';simp
  .rw[Y0U,if_pos hjl];grind
end
end L2
namespace My
open PySem L2
def ClsT(n:Int)(ps:Aa)(I O W:Ac):Prop:=Zf n ps W/\(∀ z∈I,z∈W)/\∀ z∈O,z∉W
def pl(ls T U:Ac):Prop:=HT.ltP (sumL ls T,T) (sumL ls U,U)=true
theorem Zz79:pl ls T U↔sumL ls T<sumL ls U\/(sumL ls T=sumL ls U/\HT.lexLt T U=true):=HT.ltP_iff
theorem pl.trans{ls T U W:Ac}(h1:pl ls T U)(h2:pl ls U W):pl ls T W:=HT.ltP_trans h1 h2
def OrdL(ls:Ac)(m:Nat)(os:Ac):Prop:=os.Perm (rgL m)/\os.Pairwise λx y=>lnz ls x<lnz ls y\/(lnz ls x=lnz ls y/\x<y)
theorem Zl5(g:Zy n ps)(hT:Zf n ps T)(hW:Zf n ps W)(h:∀ z∈T,z∈W):T=W :=
 ZW11 (Zm5 hT) (Zm5 hW) λz=>(Zk5 g hT hW h).mem_iff
section
variable{n:Int}{ps:Aa}{ls os I O ms:Ac}(g:Zy n ps)(ho:OrdL ls ps.length os)
include g ho
theorem Zz23{z:Int}:z∈os↔0<=z/\z<(ps.length:Int):=by rw[ho.1.mem_iff,rgL_mem]
theorem Zw7(hI:∀ z∈I,0<=z/\z<(ps.length:Int)):∀ z∈I++os.filter λz=>decide (z∉O),0<=z/\z<(ps.length:Int):=λz hz=>by
 rcases Ya.mp hz with hz | hz
 .exact hI z hz
 .exact(Zz23 g ho).mp (Yn.mp hz).1
theorem Zz313(hW:ClsT n ps I O W):∀ z∈W,z∈I++os.filter λz=>decide (z∉O):=λz hz =>
 Yb _ (Yn.mpr ⟨(Zz23 g ho).mpr (hW.1.1.all z hz),Yt λh=>hW.2.2 z h hz⟩)
theorem Zo8(hI:∀ z∈I,0<=z/\z<(ps.length:Int))(hn:I.Nodup)(h:¬ ((grw n.toNat ps (I++os.filter λz=>decide (z∉O))).take I.length=I/\¬ ((grw n.toNat ps (I++os.filter λz=>decide (z∉O))).length:Int)<n - 1))(W:Ac):¬ ClsT n ps I O W:=λhW =>
 h (Zs11 g hW.1 hn hW.2.1 (Zz313 g ho hW) (Zw7 g ho hI))
theorem Zp8(hI:∀ z∈I,0<=z/\z<(ps.length:Int))(hIO:∀ z∈I,z∉O)(h1:(grw n.toNat ps (I++os.filter λz=>decide (z∉O))).take I.length=I)(h2:¬ ((grw n.toNat ps (I++os.filter λz=>decide (z∉O))).length:Int)<n - 1)
  (hp:ms.Perm (grw n.toNat ps (I++os.filter λz=>decide (z∉O)))) (hs:ms.Pairwise (·<=·)):ClsT n ps I O ms/\∀ W,ClsT n ps I O W->W=ms\/pl ls ms W:=by
 have hb:=Zw7 (O:=O) g ho hI;have hT:=ZY4 g hb h2 hp hs
 have hin:∀ z∈ms,z∈I++os.filter λz=>decide (z∉O):=λz hz=>(Zz93 _ _ _).subset (hp.mem_iff.mp hz);have hIm:∀ z∈I,z∈ms:=λz hz=>hp.mem_iff.mpr (Y0T (h1.symm ▸ hz))
 have hOm:∀ z∈O,z∉ms:=λz hz hm=>by
  rcases Ya.mp (hin z hm) with h | h
  .exact hIO z h hz
  .exact Yy (Yn.mp h).2 hz
 have before:∀ z y,z∉I->y∉ms->y∉O->exg n ps ms z y->lnz ls z<lnz ls y\/(lnz ls z=lnz ls y/\z<y):=λz y hzI hym hyO hx=>by
  obtain⟨hzm,_,y0,y1,_⟩:=(Zs4 g hT).mp hx;have hyd:y∈os.filter λz=>decide (z∉O):=Yn.mpr ⟨(Zz23 g ho).mpr ⟨y0,y1⟩,Yt hyO⟩
  obtain⟨as,bs,ed⟩:=List.append_of_mem hyd;have hb':∀ z∈I++as,0<=z/\z<(ps.length:Int):=λz hz=>hb z ((Ya.mp hz).elim (λh=>Yg _ h) λh=>Yb _ (by rw[ed];exact Yg _ h))
  have hyG:y∉grw n.toNat ps ((I++as)++y :: bs):=by rw[Yy09,<- ed];exact λh=>hym (hp.mem_iff.mpr h)
  have c:=ZE9 g hb' y0 y1 hyG;have hz2:z∈grw n.toNat ps (I++as):=Yr λhno=>(Zz11 g hT y0 y1).mp hx.2.2 (c.mono (Zt λx hxx=>wo_mem.mpr ⟨hp.mem_iff.mpr (by
   have:=ZD9 (bs:=y :: bs) hxx
   rwa[Yy09,<- ed]at this),λe=>hno (by rwa[<- e])⟩))
  have hza:z∈as:=(Ya.mp ((Zz93 _ _ _).subset hz2)).resolve_left hzI;have pw:=ho.2.sublist (Y2t (p:=λz=>decide (z∉O)))
  rw[ed]at pw;exact(YY.mp pw).2.2 z hza y Yk
 refine⟨⟨hT,hIm,hOm⟩,?_⟩;have main:∀(k:Nat) (W:Ac),ClsT n ps I O W->(W.filter λz=>decide (z∉ms)).length=k->W=ms\/pl ls ms W:=by
  intro k
  induction k with
  | zero =>
   intro W hW hk;have hsub:∀ z∈W,z∈ms:=λz hz=>Yr λhn=>by
    have:z∈W.filter λz=>decide (z∉ms):=Yn.mpr ⟨hz,Yt hn⟩
    rw[YV.mp hk]at this;cases this
   exact .inl (Zl5 g hW.1 hT hsub)
  | succ k ih =>
   intro W hW hk;obtain⟨y,hy⟩:∃ y,y∈W.filter λz=>decide (z∉ms):=List.exists_mem_of_length_pos (by lia);obtain⟨hyW,hym⟩:=Yn.mp hy;have hym:=Yy hym
   obtain⟨z,e1,e2⟩:=Zz13 g hW.1 hT hyW hym;have hzW:z∉W:=((Zs4 g hW.1).mp e1).2.1
   have hzm:z∈ms:=e2.1;have hord:=before z y (λh=>hzW (hW.2.1 z h)) hym (λh=>hW.2.2 y h hyW) e2
   obtain⟨M,hM1,hM2⟩:=Zs5 (wo W y++[z]);have tM:=ZH3 g hW.1 e1 hM1 hM2
   have sM:=Zp2 (ls:=ls) hW.1.1.nodup hyW hM1;have mem:∀ x,x∈M↔(x∈W/\x≠y)\/x=z:=λx=>Yz11 g hW.1 e1 hM1 hM2
   have cM:ClsT n ps I O M:=⟨tM,λx hx=>(mem x).mpr (.inl ⟨hW.2.1 x hx,λe=>hym (e ▸ hIm x hx)⟩),λx hx h=>by
    rcases(mem x).mp h with h | h
    .exact hW.2.2 x hx h.1
    .exact hOm x hx (h ▸ hzm)⟩
   have lM:pl ls M W:=by
    rw[Zz79];rcases hord with h | ⟨h,h'⟩
    .exact .inl (by lia)
    .refine .inr ⟨by lia,(Zd4 (isSet_iff.mp tM.1).2 (isSet_iff.mp hW.1.1).2 (by have:=tM.2.1;have:=hW.1.2.1;lia)).mpr ⟨z,(mem z).mpr (.inr rfl),hzW,λs hs=>?_⟩⟩;rw[mem];constructor
     .rintro(q | q)
      .exact q.1
      .lia
     .exact λq=>.inl ⟨q,by lia⟩
   have hk2:(M.filter λz=>decide (z∉ms)).length=k:=by
    have hx:∀ x,x∈y :: (M.filter λz=>decide (z∉ms))↔x∈W.filter λz=>decide (z∉ms):=λx=>by
     rw[Ye,Yn,Yn,mem];constructor
     .rintro(q | ⟨q | q,q2⟩)
      .rw[q];exact⟨hyW,Yt hym⟩
      .exact⟨q.1,q2⟩
      .exact absurd (q ▸ hzm) (Yy q2)
     .rintro⟨q1,q2⟩;by_cases c:x=y
      .exact .inl c
      .exact .inr ⟨.inl ⟨q1,c⟩,q2⟩
    have nd:(y :: (M.filter λz=>decide (z∉ms))).Nodup:=Y0p.mpr ⟨λh=>by
     rcases(mem y).mp (Yn.mp h).1 with q | q
     .exact q.2 rfl
     .exact hym (q ▸ hzm),tM.1.nodup.filter _⟩
    have l1:=ZF1 nd λx h=>(hx x).mp h;have l2:=ZF1 (hW.1.1.nodup.filter λz=>decide (z∉ms)) λx h=>(hx x).mpr h
    rw[Yz]at l1 l2;lia
   rcases ih M cM hk2 with q | q
   .exact .inr (q ▸ lM)
   .exact .inr (q.trans lM)
 exact λW hW=>main _ W hW rfl
end
structure Ent where
 T:Ac
 I:Ac
 O:Ac
deriving DecidableEq
def ECl(n:Int)(ps:Aa)(E:Ent)(W:Ac):Prop:=ClsT n ps E.I E.O W
structure EOk (n:Int) (ps:Aa) (ls:Ac) (E:Ent):Prop where
 own:ECl n ps E E.T
 min:∀ W,ECl n ps E W->W=E.T\/pl ls E.T W
 iN:E.I.Nodup
 oN:E.O.Nodup
 oR:∀ z∈E.O,0<=z/\z<(ps.length:Int)
def Dsj(n:Int)(ps:Aa)(E F:Ent):Prop:=∀ W,ECl n ps E W->¬ ECl n ps F W
theorem Dsj.symm(h:Dsj n ps E F):Dsj n ps F E:=λW a b=>h W b a
theorem EOk.iL(h:EOk n ps ls E):E.I.length<=E.T.length:=ZF1 h.iN h.own.2.1
theorem EOk.oL(h:EOk n ps ls E):E.O.length<=ps.length:=by
 have:=ZF1 (m:=rgL ps.length) h.oN λz hz=>rgL_mem.mpr (h.oR z hz)
 rwa[Zz31]at this
structure FB (n:Int) (ps:Aa) (ls:Ac) (E:Ent) (l:Ac) (Es:List Ent):Prop where
 ok:∀ F∈Es,EOk n ps ls F
 sub:∀ F∈Es,∀ W,ECl n ps F W->ECl n ps E W
 cov:∀ W,ECl n ps E W->((∃ t∈l,t∉W)↔∃ F∈Es,ECl n ps F W)
 dsj:Es.Pairwise (Dsj n ps)
section
variable{n:Int}{ps:Aa}{ls os:Ac}{E:Ent}{l:Ac}{Es:List Ent}{t:Int}
theorem FB.nil:FB n ps ls E [] []:=⟨λ_ h=>(by cases h),λ_ h=>(by cases h),λ_ _=>⟨λ⟨_,h,_⟩=>(by cases h),λ⟨_,h,_⟩=>(by cases h)⟩,.nil⟩
theorem FB.skip(h:FB n ps ls E l Es)(ht:t∈E.I):FB n ps ls E (l++[t]) Es:=⟨h.ok,h.sub,λW hW=>(by
 rw[<- h.cov W hW];constructor
 .rintro⟨z,hz,hn⟩;rcases Ya.mp hz with hz | hz
  .exact⟨z,hz,hn⟩
  .rw[Yy1.mp hz]at hn;exact absurd (hW.2.1 t ht) hn
 .rintro⟨z,hz,hn⟩;exact⟨z,Yg _ hz,hn⟩),h.dsj⟩
def insd(E:Ent)(l:Ac):Ac:=E.I++l.filter λz=>decide (z∉E.I)
theorem insd_mem{z:Int}:z∈insd E l↔z∈E.I\/z∈l:=by
 unfold insd;rw[Ya,Yn];constructor
 .rintro(h | h)
  .exact .inl h
  .exact .inr h.1
 .rintro(h | h)
  .exact .inl h
  .by_cases c:z∈E.I
   .exact .inl c
   .exact .inr ⟨h,Yt c⟩
theorem part_iff:ClsT n ps (insd E l) (E.O++[t]) W↔ECl n ps E W/\(∀ z∈l,z∈W)/\t∉W:=by
 constructor
 .rintro⟨h1,h2,h3⟩;exact⟨⟨h1,λz hz=>h2 z (insd_mem.mpr (.inl hz)),λz hz=>h3 z (Yg _ hz)⟩,λz hz=>h2 z (insd_mem.mpr (.inr hz)),h3 t (Yb _ (Yy1.mpr rfl))⟩
 .rintro⟨⟨h1,h2,h3⟩,h4,h5⟩;refine⟨h1,λz hz=>(insd_mem.mp hz).elim (h2 z) (h4 z),λz hz=>?_⟩;rcases Ya.mp hz with hz | hz
  .exact h3 z hz
  .rw[Yy1.mp hz];exact h5
theorem FB.none(h:FB n ps ls E l Es)(hno:∀ W,¬ ClsT n ps (insd E l) (E.O++[t]) W):FB n ps ls E (l++[t]) Es:=⟨h.ok,h.sub,λW hW=>(by
 rw[<- h.cov W hW];constructor
 .rintro⟨z,hz,hn⟩;refine Yr λno=>hno W (part_iff.mpr ⟨hW,λy hy=>Yr λq=>no ⟨y,hy,q⟩,?_⟩);rcases Ya.mp hz with hz | hz
  .exact absurd ⟨z,hz,hn⟩ no
  .rw[<- Yy1.mp hz];exact hn
 .rintro⟨z,hz,hn⟩;exact⟨z,Yg _ hz,hn⟩),h.dsj⟩
theorem FB.more{ms:Ac}(h:FB n ps ls E l Es)(hF:EOk n ps ls ⟨ms,insd E l,E.O++[t]⟩):FB n ps ls E (l++[t]) (Es++[⟨ms,insd E l,E.O++[t]⟩]) where
 ok:=λF hF'=>by
  rcases Ya.mp hF' with q | q
  .exact h.ok F q
  .rw[Yy1.mp q];exact hF
 sub:=λF hF' W hW=>by
  rcases Ya.mp hF' with q | q
  .exact h.sub F q W hW
  .rw[Yy1.mp q]at hW;exact(part_iff.mp hW).1
 cov:=λW hW=>by
  constructor
  .rintro⟨z,hz,hn⟩;by_cases c:∃ y∈l,y∉W
   .obtain⟨F,hF1,hF2⟩:=(h.cov W hW).mp c;exact⟨F,Yg _ hF1,hF2⟩
   .refine⟨_,Yb _ (Yy1.mpr rfl),part_iff.mpr ⟨hW,λy hy=>Yr λq=>c ⟨y,hy,q⟩,?_⟩⟩;rcases Ya.mp hz with hz | hz
    .exact absurd ⟨z,hz,hn⟩ c
    .rw[<- Yy1.mp hz];exact hn
  .rintro⟨F,hF',hW'⟩;rcases Ya.mp hF' with q | q
   .obtain⟨z,hz,hn⟩:=(h.cov W hW).mpr ⟨F,q,hW'⟩;exact⟨z,Yg _ hz,hn⟩
   .rw[Yy1.mp q]at hW';exact⟨t,Yb _ (Yy1.mpr rfl),(part_iff.mp hW').2.2⟩
 dsj:=YY.mpr ⟨h.dsj,Yy05 _ _,λG hG F hF' W a b=>by rw[Yy1.mp hF']at b;obtain⟨b1,b2,_⟩:=part_iff.mp b;obtain⟨z,hz,hn⟩:=(h.cov W b1).mpr ⟨G,hG,a⟩;exact hn (b2 z hz)⟩
theorem FB.all(g:Zy n ps)(hE:EOk n ps ls E)(h:FB n ps ls E E.T Es)(W:Ac)(hW:ECl n ps E W):W≠E.T↔∃ F∈Es,ECl n ps F W:=by
 rw[<- h.cov W hW];constructor
 .intro hn;refine Yr λno=>hn (Zl5 g hE.own.1 hW.1 λz hz=>Yr λq=>no ⟨z,hz,q⟩).symm
 .rintro⟨z,hz,hn⟩ rfl;exact hn hz
theorem ZV10{ms:Ac}(g:Zy n ps)(ho:OrdL ls ps.length os)(hE:EOk n ps ls E)(hl:l.Nodup)(hlT:∀ z∈l,z∈E.T)(ht:t∈E.T)(hti:t∉insd E l)
  (h1:(grw n.toNat ps (insd E l++os.filter λz=>decide (z∉E.O++[t]))).take (insd E l).length=insd E l) (h2:¬ ((grw n.toNat ps (insd E l++os.filter λz=>decide (z∉E.O++[t]))).length:Int)<n - 1)
  (hp:ms.Perm (grw n.toNat ps (insd E l++os.filter λz=>decide (z∉E.O++[t])))) (hs:ms.Pairwise (·<=·)):EOk n ps ls ⟨ms,insd E l,E.O++[t]⟩:=by
 have hin:∀ z∈insd E l,z∈E.T:=λz hz=>(insd_mem.mp hz).elim (hE.own.2.1 z) (hlT z);obtain⟨c1,c2⟩:=Zp8 g ho (λz hz=>hE.own.1.1.all z (hin z hz)) (λz hz hO=>by
  rcases Ya.mp hO with q | q
  .exact hE.own.2.2 z q (hin z hz)
  .exact hti ((Yy1.mp q) ▸ hz)) h1 h2 hp hs
 refine⟨c1,c2,?_,?_,λz hz=>?_⟩
 .exact Y0d.mpr ⟨hE.iN,hl.filter _,λa ha b hb e=>Yy (Yn.mp hb).2 (e ▸ ha)⟩
 .exact Y0d.mpr ⟨hE.oN,Yy05 _ _,λa ha b hb e=>hE.own.2.2 a ha (by rwa[e,Yy1.mp hb])⟩
 .rcases Ya.mp hz with q | q
  .exact hE.oR z q
  .rw[Yy1.mp q];exact hE.own.1.1.all t ht
end
structure RI (n:Int) (ps:Aa) (ls:Ac) (L:Ab) (Es:List Ent):Prop where
 tr:∀ T∈L,Zf n ps T
 asc:L.Pairwise (pl ls)
 ok:∀ E∈Es,EOk n ps ls E
 cov:∀ W,Zf n ps W->W∈L\/∃ E∈Es,ECl n ps E W
 beh:∀ E∈Es,∀ W,ECl n ps E W->∀ T∈L,pl ls T W
 dsj:Es.Pairwise (Dsj n ps)
theorem Zz88:∀ a b:Ac,a.length=b.length->a≠b->HT.lexLt a b=true\/HT.lexLt b a=true
 | [],[],_,h=>absurd rfl h
 | [],_ :: _,h,_=>by cases h
 | _ :: _,[],h,_=>by cases h
 | x :: a,y :: b,hl,h=>by
  rw[HT.lexLt_cons,HT.lexLt_cons];by_cases c:x=y
  .rw[if_pos c,if_pos c.symm];exact Zz88 a b (by simpa using hl) λe=>h (by rw[c,e])
  .rw[if_neg c,if_neg (λq=>c q.symm),YH,YH];lia
theorem Zx12(hT:Zf n ps T)(hU:Zf n ps U)(h:T≠U):pl ls T U\/pl ls U T:=by
 rw[Zz79,Zz79];rcases Int.lt_trichotomy (sumL ls T) (sumL ls U) with c | c | c
 .exact .inl (.inl c)
 .rcases Zz88 T U (by have:=hT.2.1;have:=hU.2.1;lia) h with q | q
  .exact .inl (.inr ⟨c,q⟩)
  .exact .inr (.inr ⟨c.symm,q⟩)
 .exact .inr (.inl c)
section
variable{n:Int}{ps:Aa}{ls:Ac}{L:Ab}{Es Fs:List Ent}
theorem RI.apart(h:RI n ps ls L Es){i j:Nat}{E F:Ent}(hE:Es[i]?=some E)(hF:Es[j]?=some F)(hne:i≠j):Dsj n ps E F:=by
 obtain⟨hi,ei⟩:=Yy3.mp hE;obtain⟨hj,ej⟩:=Yy3.mp hF;have pw:=Yy07.mp h.dsj
 by_cases c:i<j
 .have:=pw i j hi hj c
  rwa[ei,ej]at this
 .have:=pw j i hj hi (by lia)
  rw[ei,ej]at this;exact this.symm
theorem RI.unlike(h:RI n ps ls L Es){i j:Nat}{E F:Ent}(hE:Es[i]?=some E)(hF:Es[j]?=some F)(hne:i≠j):E.T≠F.T:=λe =>
 h.apart hE hF hne E.T (h.ok E (Yy8 hE)).own (e ▸ (h.ok F (Yy8 hF)).own)
theorem RI.step(g:Zy n ps)(h:RI n ps ls L Es){j:Nat}{E:Ent}(hE:Es[j]?=some E)(hm:∀ F∈Es,¬ pl ls F.T E.T)(hF:FB n ps ls E E.T Fs):RI n ps ls (L++[E.T]) (Es.eraseIdx j++Fs):=by
 have okE:=h.ok E (Yy8 hE);have er:∀ F∈Es.eraseIdx j,∃ i,i≠j/\Es[i]?=some F:=λF hF=>by obtain⟨i,hi,e⟩:=Y2J.mp hF;exact⟨i,hi,e⟩
 have all:=hF.all g okE;refine⟨λT hT=>?_,?_,λF hF'=>?_,λW hW=>?_,λF hF' W hW T hT=>?_,?_⟩
 .rcases Ya.mp hT with q | q
  .exact h.tr T q
  .rw[Yy1.mp q];exact okE.own.1
 .refine YY.mpr ⟨h.asc,Yy05 _ _,λT hT U hU=>?_⟩;rw[Yy1.mp hU];exact h.beh E (Yy8 hE) E.T okE.own T hT
 .rcases Ya.mp hF' with q | q
  .obtain⟨i,_,e⟩:=er F q;exact h.ok F (Yy8 e)
  .exact hF.ok F q
 .rcases h.cov W hW with q | ⟨F,q1,q2⟩
  .exact .inl (Yg _ q)
  .obtain⟨i,hi⟩:=Y0f q1;by_cases c:i=j
   .subst c;rw[hE]at hi;obtain rfl:=Yd hi;by_cases c2:W=E.T
    .exact .inl (Yb _ (Yy1.mpr c2))
    .obtain⟨G,g1,g2⟩:=(all W q2).mp c2;exact .inr ⟨G,Yb _ g1,g2⟩
   .exact .inr ⟨F,Yg _ (Y2J.mpr ⟨i,c,hi⟩),q2⟩
 .rcases Ya.mp hF' with q | q
  .obtain⟨i,hi,e⟩:=er F q;have okF:=h.ok F (Yy8 e)
   rcases Ya.mp hT with qT | qT
   .exact h.beh F (Yy8 e) W hW T qT
   .rw[Yy1.mp qT];have less:=(Zx12 (ls:=ls) okF.own.1 okE.own.1 (h.unlike e hE hi)).resolve_left (hm F (Yy8 e))
    rcases okF.min W hW with c | c
    .rw[c];exact less
    .exact less.trans c
  .have hWE:=hF.sub F q W hW;rcases Ya.mp hT with qT | qT
   .exact h.beh E (Yy8 hE) W hWE T qT
   .rw[Yy1.mp qT];exact(okE.min W hWE).resolve_left ((all W hWE).mpr ⟨F,q,hW⟩)
 .refine YY.mpr ⟨h.dsj.sublist (List.eraseIdx_sublist _ _),hF.dsj,λF q G q2 W a b=>?_⟩;obtain⟨i,hi,e⟩:=er F q;exact h.apart e hE hi W a (hF.sub G q2 W b)
end
structure Rkd (n:Int) (ps:Aa) (ls:Ac) (most:Nat) (L:Ab):Prop where
 tr:∀ T∈L,Zf n ps T
 asc:L.Pairwise (pl ls)
 few:L.length<=most
 all:∀ W,Zf n ps W->W∈L\/(L.length=most/\∀ T∈L,pl ls T W)
end My
namespace L2
open PySem PySem.Spec PyProof.Rows PySem.W My
theorem SameX.same(s:Same H H'):SameX Pt H H':=λb o _ e=>s b o e
theorem SameX.trans{Pt:Addr}{H H1 H2:Hp}(a:SameX Pt H H1)(b:SameX Pt H1 H2):SameX Pt H H2:=λc o hc e=>b c o hc (a c o hc e)
theorem TabH.same(t:TabH H Pt pos qual)(s:Same H H'):TabH H' Pt pos qual:=by
 obtain⟨ps,h1,h2,h3⟩:=t;refine⟨ps,s _ _ h1,h2,?_⟩;rcases h3 with h | ⟨c,h,h'⟩
 .exact .inl h
 .exact .inr ⟨c,h,s _ _ h'⟩
theorem TabH.ne{Pt a:Addr}{o:HO}(t:TabH H Pt pos qual)(h:H a=some o)(hn:∀ ps,o≠.tbl ps):a≠Pt:=λe=>by obtain⟨ps,h1,_⟩:=t;rw[e,h1]at h;exact hn ps (Yd h).symm
end L2
namespace My
open PySem L2
theorem Zp3{m i:Nat}(h:i<m):(rgL m).getD i 0=(i:Int):=by unfold rgL;rw[Yy7,Yp,Y0t h];rfl
theorem ZL8(h:Zz710 (λz=>lnz ls z) (rgL m) ms):OrdL ls m ms:=by
 obtain⟨p,hp,hw,rfl⟩:=h;rw[Zz31]at hp;have hb:∀ i∈p,i<m:=λi hi=>YG.mp (hp.mem_iff.mp hi)
 have e:(p.map λi=>(rgL m).getD i 0)=p.map λ(i:Nat)=>(i:Int):=YM λi hi=>Zp3 (hb i hi);rw[e];refine⟨hp.map _,?_⟩;rw[Yy24];refine hw.imp_of_mem λ{i j} hi hj h=>?_;have h:lnz ls ((rgL m).getD i 0)<lnz ls ((rgL m).getD j 0)\/(lnz ls ((rgL m).getD i 0)=lnz ls ((rgL m).getD j 0)/\i<j):=h
 rw[Zp3 (hb i hi),Zp3 (hb j hj)]at h;grind
theorem SqK.samex(h:SqK kd K H a xs)(t:TabH H Pt pos qual)(sx:SameX Pt H H2):SqK kd K H2 a xs:=by
 cases kd with
 | true=>exact SqT.samex (show SqT K H a xs from h) t sx
 | false =>
  rcases(show SqL K H a xs from h) with (h | ⟨o,h⟩) | h
  .exact .inl (.inl (sx _ _ (t.ne h (by simp)) h))
  .exact .inl (.inr ⟨o,sx _ _ (t.ne h (by simp)) h⟩)
  .exact .inr h
theorem WebAt.samex(h:WebAt C H w n ps)(t:TabH H Pt pos qual)(sx:SameX Pt H H2):WebAt C H2 w n ps:=by obtain⟨dx,tl,xs,h1,h2,h3⟩:=h;refine⟨dx,tl,xs,sx _ _ (t.ne h1 (by simp)) h1,sx _ _ (t.ne h2 (by simp)) h2,h3.1,λi p hp=>?_⟩;obtain⟨x,hx,q,e,hq⟩:=h3.2 i p hp;exact⟨x,hx,q,e,sx _ _ (t.ne hq (by simp)) hq⟩
end My
namespace My
theorem un1{α:Type}{P:List α->Prop}(h:∀ a,P [a])(l:List α)(e:l.length=1):P l:=by obtain⟨a,rfl⟩:=len1 e;exact h a
theorem un2{α:Type}{P:List α->Prop}(h:∀ a b,P [a,b])(l:List α)(e:l.length=2):P l:=by obtain⟨a,b,rfl⟩:=len2 e;exact h a b
theorem un3{α:Type}{P:List α->Prop}(h:∀ a b c,P [a,b,c])(l:List α)(e:l.length=3):P l:=by obtain⟨a,b,c,rfl⟩:=len3 e;exact h a b c
theorem un4{α:Type}{P:List α->Prop}(h:∀ a b c d,P [a,b,c,d])(l:List α)(e:l.length=4):P l:=by obtain⟨a,b,c,d,rfl⟩:=len4 e;exact h a b c d
theorem un5{α:Type}{P:List α->Prop}(h:∀ a b c d e,P [a,b,c,d,e])(l:List α)(e:l.length=5):P l:=by
 cases l with
 | nil=>cases e
 | cons x r =>
  obtain⟨a,b,c,d,rfl⟩:=len4 (Yy19 e);exact h x a b c d
end My
namespace L2
open PySem PySem.Spec PyProof.Rows PySem.W
variable{P:Program}{w:World}{K:Ad}{mg:Af}{base:Heap}
theorem Fun.okLX{x qual:Str}{st:Stmt}{f c:Addr}{fd:FuncData}{N ps:List Str}{k:Nat}{sp:Sp}(F:Fun K x qual st f fd)(hc:fd.code=.ref c)(S:FnScope N ps (Zz4 st))(len:∀ vs H Q E,sp vs H Q E->vs.length=ps.length)
  (hbody:∀(A:Around) (outer:List Env) (s:Shared) (H:Hp) (vs:List V) (Q:VK) (E:XK),Room k (A.deeper (envOfC qual (Zz4 st) s.heap.objs.size f (.ref c)))->sp vs H Q E ->
   ∃ t,PSs (cxOf (CXW P w) P w K mg base N qual (Zz4 st) f (.ref c) A outer s H E) (Zi1 st) t/\t { nx:=λ_ H'=>Q .non H',rt:=Q } (start N vs) H):FnOk P w K mg base (CXW P w) (k+1) f fd ps sp:=by obtain⟨oc,od,kV,doc,pm,an,cdv,ct,osl,rfl,lk,hcd⟩:=F.ex;obtain rfl:cdv=.ref c:=hc;exact ZW12 lk hcd S len λA outer s H vs Q E hr hsp=>hbody A outer s H vs Q E hr hsp
end L2
namespace My
open PySem L2
def top(i:Nat):Stmt:=PySem.Challenge.pw_spanrow_k68_lengths_refused.main.body.getD i (.Pass ⟨0,0,0,0⟩)
abbrev sZ0:Stmt:=top 10
abbrev sZ1:Stmt:=top 11
abbrev sZ2:Stmt:=top 12
abbrev sZ3:Stmt:=top 13
abbrev sZ4:Stmt:=top 14
abbrev sZ5:Stmt:=top 15
abbrev sZ6:Stmt:=top 21
abbrev sZ7:Stmt:=top 20
abbrev sZ8:Stmt:=Zq11 (top 19) 0
abbrev sZ9:Stmt:=top 22
abbrev sZa:Stmt:=top 23
abbrev sZb:Stmt:=top 24
abbrev sZc:Stmt:=top 25
abbrev sZd:Stmt:=top 26
abbrev sZe:Stmt:=top 27
abbrev sZf:Stmt:=top 28
abbrev sZg:Stmt:=top 29
abbrev sZh:Stmt:=top 30
abbrev sZi:Stmt:=top 31
abbrev sZj:Stmt:=top 32
abbrev sZk:Stmt:=top 34
abbrev sZl:Stmt:=top 35
abbrev sZm:Stmt:=top 36
abbrev sZn:Stmt:=top 37
abbrev sZo:Stmt:=top 39
abbrev sZp:Stmt:=top 40
abbrev sZq:Stmt:=top 41
abbrev sZr:Stmt:=top 42
abbrev sZs:Stmt:=top 43
abbrev sZt:Stmt:=top 44
abbrev sZu:Stmt:=top 46
abbrev sZv:Stmt:=top 47
abbrev sZw:Stmt:=top 48
abbrev sZx:Stmt:=top 50
abbrev sZy:Stmt:=top 51
abbrev sZz:Stmt:=top 52
abbrev sZA:Stmt:=top 53
abbrev sZB:Stmt:=top 54
abbrev sZC:Stmt:=top 55
abbrev sZD:Stmt:=top 56
abbrev sZE:Stmt:=top 57
abbrev sZF:Stmt:=top 59
abbrev sZG:Stmt:=top 60
abbrev sZH:Stmt:=top 61
abbrev sZI:Stmt:=top 63
abbrev sZJ:Stmt:=top 64
abbrev sZK:Stmt:=top 65
abbrev sZL:Stmt:=top 66
abbrev sZM:Stmt:=top 67
abbrev sZN:Stmt:=top 68
abbrev sZO:Stmt:=top 69
abbrev sZP:Stmt:=top 70
abbrev sZQ:Stmt:=top 71
set_option genInjectivity false in
structure Adr where
 aZ0:Addr
 dZ0:FuncData
 aZ1:Addr
 dZ1:FuncData
 aZ2:Addr
 dZ2:FuncData
 aZ3:Addr
 dZ3:FuncData
 aZ4:Addr
 dZ4:FuncData
 aZ5:Addr
 dZ5:FuncData
 aZ6:Addr
 dZ6:FuncData
 aZ7:Addr
 dZ7:FuncData
 aZ8:Addr
 dZ8:FuncData
 aZ9:Addr
 dZ9:FuncData
 aZa:Addr
 dZa:FuncData
 aZb:Addr
 dZb:FuncData
 aZc:Addr
 dZc:FuncData
 aZd:Addr
 dZd:FuncData
 aZe:Addr
 dZe:FuncData
 aZf:Addr
 dZf:FuncData
 aZg:Addr
 dZg:FuncData
 aZh:Addr
 dZh:FuncData
 aZi:Addr
 dZi:FuncData
 aZj:Addr
 dZj:FuncData
 aZk:Addr
 dZk:FuncData
 aZl:Addr
 dZl:FuncData
 aZm:Addr
 dZm:FuncData
 aZn:Addr
 dZn:FuncData
 aZo:Addr
 dZo:FuncData
 aZp:Addr
 dZp:FuncData
 aZq:Addr
 dZq:FuncData
 aZr:Addr
 dZr:FuncData
 aZs:Addr
 dZs:FuncData
 aZt:Addr
 dZt:FuncData
 aZu:Addr
 dZu:FuncData
 aZv:Addr
 dZv:FuncData
 aZw:Addr
 dZw:FuncData
 aZx:Addr
 dZx:FuncData
 aZy:Addr
 dZy:FuncData
 aZz:Addr
 dZz:FuncData
 aZA:Addr
 dZA:FuncData
 aZB:Addr
 dZB:FuncData
 aZC:Addr
 dZC:FuncData
 aZD:Addr
 dZD:FuncData
 aZE:Addr
 dZE:FuncData
 aZF:Addr
 dZF:FuncData
 aZG:Addr
 dZG:FuncData
 aZH:Addr
 dZH:FuncData
 aZI:Addr
 dZI:FuncData
 aZJ:Addr
 dZJ:FuncData
 aZK:Addr
 dZK:FuncData
 aZL:Addr
 dZL:FuncData
 aZM:Addr
 dZM:FuncData
 aZN:Addr
 dZN:FuncData
 aZO:Addr
 dZO:FuncData
 aZP:Addr
 dZP:FuncData
 aZQ:Addr
 dZQ:FuncData
 A_Web:Addr
 A_WebError:Addr
 A_BadSet:Addr
 A_Parted:Addr
 A_NoTree:Addr
 A_NoSuch:Addr
 A_BadRow:Addr
structure Txt (K:Ad) (mg:Af) (t:Adr):Prop where
 fZ0:Fun K "refuse_not_square" "refuse_not_square" sZ0 t.aZ0 t.dZ0
 bZ0:Binds K t.dZ0 ["table"] []
 mZ0:mg "refuse_not_square"=some (.ref t.aZ0)
 fZ1:Fun K "row_taken_off" "row_taken_off" sZ1 t.aZ1 t.dZ1
 bZ1:Binds K t.dZ1 ["row","pivot","last"] []
 mZ1:mg "row_taken_off"=some (.ref t.aZ1)
 fZ2:Fun K "first_with_some" "first_with_some" sZ2 t.aZ2 t.dZ2
 bZ2:Binds K t.dZ2 ["rows"] []
 mZ2:mg "first_with_some"=some (.ref t.aZ2)
 fZ3:Fun K "determinant" "determinant" sZ3 t.aZ3 t.dZ3
 bZ3:Binds K t.dZ3 ["table"] []
 mZ3:mg "determinant"=some (.ref t.aZ3)
 fZ4:Fun K "row_without" "row_without" sZ4 t.aZ4 t.dZ4
 bZ4:Binds K t.dZ4 ["row","number"] []
 mZ4:mg "row_without"=some (.ref t.aZ4)
 fZ5:Fun K "table_without" "table_without" sZ5 t.aZ5 t.dZ5
 bZ5:Binds K t.dZ5 ["table","number"] []
 mZ5:mg "table_without"=some (.ref t.aZ5)
 fZ6:Fun K "is_tie" "is_tie" sZ6 t.aZ6 t.dZ6
 bZ6:Binds K t.dZ6 ["web","number"] []
 mZ6:mg "is_tie"=some (.ref t.aZ6)
 fZ7:Fun K "refuse_bad_web" "refuse_bad_web" sZ7 t.aZ7 t.dZ7
 bZ7:Binds K t.dZ7 ["places","ties"] []
 mZ7:mg "refuse_bad_web"=some (.ref t.aZ7)
 fZ8:Fun K "__init__" "Web.__init__" sZ8 t.aZ8 t.dZ8
 bZ8:Binds K t.dZ8 ["self","places","ties"] []
 fZ9:Fun K "refuse_bad_row" "refuse_bad_row" sZ9 t.aZ9 t.dZ9
 bZ9:Binds K t.dZ9 ["web","numbers"] []
 mZ9:mg "refuse_bad_row"=some (.ref t.aZ9)
 fZa:Fun K "all_ties" "all_ties" sZa t.aZa t.dZa
 bZa:Binds K t.dZa ["web"] []
 mZa:mg "all_ties"=some (.ref t.aZa)
 fZb:Fun K "ties_beside" "ties_beside" sZb t.aZb t.dZb
 bZb:Binds K t.dZb ["web","ties"] []
 mZb:mg "ties_beside"=some (.ref t.aZb)
 fZc:Fun K "ties_without" "ties_without" sZc t.aZc t.dZc
 bZc:Binds K t.dZc ["ties","left_out"] []
 mZc:mg "ties_without"=some (.ref t.aZc)
 fZd:Fun K "is_set" "is_set" sZd t.aZd t.dZd
 bZd:Binds K t.dZd ["web","ties"] []
 mZd:mg "is_set"=some (.ref t.aZd)
 fZe:Fun K "made_set" "made_set" sZe t.aZe t.dZe
 bZe:Binds K t.dZe ["web","ties"] []
 mZe:mg "made_set"=some (.ref t.aZe)
 fZf:Fun K "merged_marks" "merged_marks" sZf t.aZf t.dZf
 bZf:Binds K t.dZf ["web","marks","ties"] []
 mZf:mg "merged_marks"=some (.ref t.aZf)
 fZg:Fun K "piece_marks" "piece_marks" sZg t.aZg t.dZg
 bZg:Binds K t.dZg ["web","ties"] []
 mZg:mg "piece_marks"=some (.ref t.aZg)
 fZh:Fun K "pieces_of" "pieces_of" sZh t.aZh t.dZh
 bZh:Binds K t.dZh ["web","ties"] []
 mZh:mg "pieces_of"=some (.ref t.aZh)
 fZi:Fun K "is_joined" "is_joined" sZi t.aZi t.dZi
 bZi:Binds K t.dZi ["web","ties"] []
 mZi:mg "is_joined"=some (.ref t.aZi)
 fZj:Fun K "refuse_parted" "refuse_parted" sZj t.aZj t.dZj
 bZj:Binds K t.dZj ["web"] []
 mZj:mg "refuse_parted"=some (.ref t.aZj)
 fZk:Fun K "weighted_table" "weighted_table" sZk t.aZk t.dZk
 bZk:Binds K t.dZk ["web","weights"] []
 mZk:mg "weighted_table"=some (.ref t.aZk)
 fZl:Fun K "pull_table" "pull_table" sZl t.aZl t.dZl
 bZl:Binds K t.dZl ["web"] []
 mZl:mg "pull_table"=some (.ref t.aZl)
 fZm:Fun K "tree_count" "tree_count" sZm t.aZm t.dZm
 bZm:Binds K t.dZm ["web"] []
 mZm:mg "tree_count"=some (.ref t.aZm)
 fZn:Fun K "part_count" "part_count" sZn t.aZn t.dZn
 bZn:Binds K t.dZn ["web","inside","outside"] []
 mZn:mg "part_count"=some (.ref t.aZn)
 fZo:Fun K "is_tree" "is_tree" sZo t.aZo t.dZo
 bZo:Binds K t.dZo ["web","ties"] []
 mZo:mg "is_tree"=some (.ref t.aZo)
 fZp:Fun K "refuse_no_tree" "refuse_no_tree" sZp t.aZp t.dZp
 bZp:Binds K t.dZp ["web","tree"] []
 mZp:mg "refuse_no_tree"=some (.ref t.aZp)
 fZq:Fun K "grown_tree" "grown_tree" sZq t.aZq t.dZq
 bZq:Binds K t.dZq ["web","inside","order"] []
 mZq:mg "grown_tree"=some (.ref t.aZq)
 fZr:Fun K "least_tree" "least_tree" sZr t.aZr t.dZr
 bZr:Binds K t.dZr ["web"] []
 mZr:mg "least_tree"=some (.ref t.aZr)
 fZs:Fun K "tree_cut" "tree_cut" sZs t.aZs t.dZs
 bZs:Binds K t.dZs ["web","tree","tie"] []
 mZs:mg "tree_cut"=some (.ref t.aZs)
 fZt:Fun K "exchanges_of" "exchanges_of" sZt t.aZt t.dZt
 bZt:Binds K t.dZt ["web","tree"] []
 mZt:mg "exchanges_of"=some (.ref t.aZt)
 fZu:Fun K "tree_at" "tree_at" sZu t.aZu t.dZu
 bZu:Binds K t.dZu ["web","number"] []
 mZu:mg "tree_at"=some (.ref t.aZu)
 fZv:Fun K "lesser_ties" "lesser_ties" sZv t.aZv t.dZv
 bZv:Binds K t.dZv ["ties","bound"] []
 mZv:mg "lesser_ties"=some (.ref t.aZv)
 fZw:Fun K "number_of" "number_of" sZw t.aZw t.dZw
 bZw:Binds K t.dZw ["web","tree"] []
 mZw:mg "number_of"=some (.ref t.aZw)
 fZx:Fun K "length_of" "length_of" sZx t.aZx t.dZx
 bZx:Binds K t.dZx ["web","lengths","ties"] []
 mZx:mg "length_of"=some (.ref t.aZx)
 fZy:Fun K "cheapest_web" "cheapest_web" sZy t.aZy t.dZy
 bZy:Binds K t.dZy ["web","lengths"] []
 mZy:mg "cheapest_web"=some (.ref t.aZy)
 fZz:Fun K "cheapest_tree" "cheapest_tree" sZz t.aZz t.dZz
 bZz:Binds K t.dZz ["web","lengths"] []
 mZz:mg "cheapest_tree"=some (.ref t.aZz)
 fZA:Fun K "gains_of" "gains_of" sZA t.aZA t.dZA
 bZA:Binds K t.dZA ["web","lengths","tree"] []
 mZA:mg "gains_of"=some (.ref t.aZA)
 fZB:Fun K "is_cheapest" "is_cheapest" sZB t.aZB t.dZB
 bZB:Binds K t.dZB ["web","lengths","tree"] []
 mZB:mg "is_cheapest"=some (.ref t.aZB)
 fZC:Fun K "cheapest_count" "cheapest_count" sZC t.aZC t.dZC
 bZC:Binds K t.dZC ["web","lengths"] []
 mZC:mg "cheapest_count"=some (.ref t.aZC)
 fZD:Fun K "cheapest_at" "cheapest_at" sZD t.aZD t.dZD
 bZD:Binds K t.dZD ["web","lengths","number"] []
 mZD:mg "cheapest_at"=some (.ref t.aZD)
 fZE:Fun K "cheapest_number" "cheapest_number" sZE t.aZE t.dZE
 bZE:Binds K t.dZE ["web","lengths","tree"] []
 mZE:mg "cheapest_number"=some (.ref t.aZE)
 fZF:Fun K "first_of" "first_of" sZF t.aZF t.dZF
 bZF:Binds K t.dZF ["web","lengths","order","inside","outside"] []
 mZF:mg "first_of"=some (.ref t.aZF)
 fZG:Fun K "firsts_behind" "firsts_behind" sZG t.aZG t.dZG
 bZG:Binds K t.dZG ["web","lengths","order","taken"] []
 mZG:mg "firsts_behind"=some (.ref t.aZG)
 fZH:Fun K "ranked" "ranked" sZH t.aZH t.dZH
 bZH:Binds K t.dZH ["web","lengths","most"] []
 mZH:mg "ranked"=some (.ref t.aZH)
 fZI:Fun K "_law_at" "_law_at" sZI t.aZI t.dZI
 bZI:Binds K t.dZI ["script","k"] []
 mZI:mg "_law_at"=some (.ref t.aZI)
 fZJ:Fun K "_law_stir" "_law_stir" sZJ t.aZJ t.dZJ
 bZJ:Binds K t.dZJ ["cell","k"] []
 mZJ:mg "_law_stir"=some (.ref t.aZJ)
 fZK:Fun K "_law_numbers" "_law_numbers" sZK t.aZK t.dZK
 bZK:Binds K t.dZK ["script","start","most"] []
 mZK:mg "_law_numbers"=some (.ref t.aZK)
 fZL:Fun K "_law_digits" "_law_digits" sZL t.aZL t.dZL
 bZL:Binds K t.dZL ["cell","most_places","most_ties"] []
 mZL:mg "_law_digits"=some (.ref t.aZL)
 fZM:Fun K "_law_web" "_law_web" sZM t.aZM t.dZM
 bZM:Binds K t.dZM ["script","most_places","most_ties"] []
 mZM:mg "_law_web"=some (.ref t.aZM)
 fZN:Fun K "_law_trees" "_law_trees" sZN t.aZN t.dZN
 bZN:Binds K t.dZN ["places","ties"] []
 mZN:mg "_law_trees"=some (.ref t.aZN)
 fZO:Fun K "_law_deed" "_law_deed" sZO t.aZO t.dZO
 bZO:Binds K t.dZO ["deed","web","lengths","odd","number"] []
 mZO:mg "_law_deed"=some (.ref t.aZO)
 fZP:Fun K "_law_told" "_law_told" sZP t.aZP t.dZP
 bZP:Binds K t.dZP ["deed","web","lengths","odd","number"] []
 mZP:mg "_law_told"=some (.ref t.aZP)
 fZQ:Fun K "law" "law" sZQ t.aZQ t.dZQ
 bZQ:Binds K t.dZQ ["script"] []
 mZQ:mg "law"=some (.ref t.aZQ)
 c_Web:mg "Web"=some (.ref t.A_Web)
 cl_Web:Cls K t.A_Web
 k_Web:Mk K t.A_Web t.aZ8
 n_Web_places:NoAttr K t.A_Web "places"
 n_Web_ties:NoAttr K t.A_Web "ties"
 c_WebError:mg "WebError"=some (.ref t.A_WebError)
 c_BadSet:mg "BadSet"=some (.ref t.A_BadSet)
 c_Parted:mg "Parted"=some (.ref t.A_Parted)
 c_NoTree:mg "NoTree"=some (.ref t.A_NoTree)
 c_NoSuch:mg "NoSuch"=some (.ref t.A_NoSuch)
 c_BadRow:mg "BadRow"=some (.ref t.A_BadRow)
 x_BadRow:XCls K (t.A_BadRow)
 x_BadSet:XCls K (t.A_BadSet)
 x_Parted:XCls K (t.A_Parted)
 x_NoTree:XCls K (t.A_NoTree)
 x_NoSuch:XCls K (t.A_NoSuch)
 ki_BadRow_BadSet:PySem.W.kitOne K (.ref (t.A_BadRow)) (.ref (t.A_BadSet))=some false
 ki_BadRow_Parted:PySem.W.kitOne K (.ref (t.A_BadRow)) (.ref (t.A_Parted))=some false
 ki_BadRow_NoTree:PySem.W.kitOne K (.ref (t.A_BadRow)) (.ref (t.A_NoTree))=some false
 ki_BadRow_NoSuch:PySem.W.kitOne K (.ref (t.A_BadRow)) (.ref (t.A_NoSuch))=some false
 ki_BadRow_ValueError:PySem.W.kitOne K (.ref (t.A_BadRow)) (.type "ValueError")=some true
 em_BadRow:PySem.W.exmOne K (.ref (t.A_BadRow)) (.ref (t.A_WebError))=some true
 ki_BadSet_BadRow:PySem.W.kitOne K (.ref (t.A_BadSet)) (.ref (t.A_BadRow))=some false
 ki_BadSet_Parted:PySem.W.kitOne K (.ref (t.A_BadSet)) (.ref (t.A_Parted))=some false
 ki_BadSet_NoTree:PySem.W.kitOne K (.ref (t.A_BadSet)) (.ref (t.A_NoTree))=some false
 ki_BadSet_NoSuch:PySem.W.kitOne K (.ref (t.A_BadSet)) (.ref (t.A_NoSuch))=some false
 ki_BadSet_ValueError:PySem.W.kitOne K (.ref (t.A_BadSet)) (.type "ValueError")=some true
 em_BadSet:PySem.W.exmOne K (.ref (t.A_BadSet)) (.ref (t.A_WebError))=some true
 ki_Parted_BadRow:PySem.W.kitOne K (.ref (t.A_Parted)) (.ref (t.A_BadRow))=some false
 ki_Parted_BadSet:PySem.W.kitOne K (.ref (t.A_Parted)) (.ref (t.A_BadSet))=some false
 ki_Parted_NoTree:PySem.W.kitOne K (.ref (t.A_Parted)) (.ref (t.A_NoTree))=some false
 ki_Parted_NoSuch:PySem.W.kitOne K (.ref (t.A_Parted)) (.ref (t.A_NoSuch))=some false
 ki_Parted_ValueError:PySem.W.kitOne K (.ref (t.A_Parted)) (.type "ValueError")=some true
 em_Parted:PySem.W.exmOne K (.ref (t.A_Parted)) (.ref (t.A_WebError))=some true
 ki_NoTree_BadRow:PySem.W.kitOne K (.ref (t.A_NoTree)) (.ref (t.A_BadRow))=some false
 ki_NoTree_BadSet:PySem.W.kitOne K (.ref (t.A_NoTree)) (.ref (t.A_BadSet))=some false
 ki_NoTree_Parted:PySem.W.kitOne K (.ref (t.A_NoTree)) (.ref (t.A_Parted))=some false
 ki_NoTree_NoSuch:PySem.W.kitOne K (.ref (t.A_NoTree)) (.ref (t.A_NoSuch))=some false
 ki_NoTree_ValueError:PySem.W.kitOne K (.ref (t.A_NoTree)) (.type "ValueError")=some true
 em_NoTree:PySem.W.exmOne K (.ref (t.A_NoTree)) (.ref (t.A_WebError))=some true
 ki_NoSuch_BadRow:PySem.W.kitOne K (.ref (t.A_NoSuch)) (.ref (t.A_BadRow))=some false
 ki_NoSuch_BadSet:PySem.W.kitOne K (.ref (t.A_NoSuch)) (.ref (t.A_BadSet))=some false
 ki_NoSuch_Parted:PySem.W.kitOne K (.ref (t.A_NoSuch)) (.ref (t.A_Parted))=some false
 ki_NoSuch_NoTree:PySem.W.kitOne K (.ref (t.A_NoSuch)) (.ref (t.A_NoTree))=some false
 ki_NoSuch_ValueError:PySem.W.kitOne K (.ref (t.A_NoSuch)) (.type "ValueError")=some true
 em_NoSuch:PySem.W.exmOne K (.ref (t.A_NoSuch)) (.ref (t.A_WebError))=some true
 g_MOST_PLACES:∃ tk,mg "MOST_PLACES"=some (.int 14 tk)
 g_MOST_TIES:∃ tk,mg "MOST_TIES"=some (.int 30 tk)
 n_ValueError:mg "ValueError"=none
 n_enumerate:mg "enumerate"=none
 n_int:mg "int"=none
 n_isinstance:mg "isinstance"=none
 n_len:mg "len"=none
 n_list:mg "list"=none
 n_max:mg "max"=none
 n_min:mg "min"=none
 n_range:mg "range"=none
 n_set:mg "set"=none
 n_sorted:mg "sorted"=none
 n_sum:mg "sum"=none
 n_tuple:mg "tuple"=none
 n_zip:mg "zip"=none
end My
namespace My
open PySem L2 PyProof.Rows
set_option maxHeartbeats 4000000
section
variable{P:Program}{w:World}{K:Ad}{mg:Af}{base:Heap}{t:Adr}
def spZ0(K:Ad):Sp:=λvs H Q _=>∃(a:Addr) (kd:Bool) (xs:List V) (L:Ab),vs=[.ref a]/\SqK kd K H a xs/\Bears (RowV K H) xs L /\
 ((∀ l∈L,l.length=L.length)->Q .non H)/\(¬ (∀ l∈L,l.length=L.length)->False)
theorem scZ0:FnScope ["table","row"] ["table"] (Zz4 sZ0):=⟨rfl,rfl,rfl,by decide +kernel,rfl,by decide +kernel,by decide +kernel⟩
theorem okZ0 (T:Txt K mg t):FnOk P w K mg base CX0 1 t.aZ0 t.dZ0 ["table"] (spZ0 K):=by
 refine T.fZ0.ok scZ0 (λvs H Q E h=>?_) (λcdv A outer s H vs Q E hr h=>?_)
 .obtain⟨a,kd,xs,L,rfl,_⟩:=h;rfl
 .obtain⟨a,kd,xs,L,rfl,hS,hB,q,qe⟩:=h;refine⟨_,(Zz6 (ZX YX rfl (ZZ1 K (pv 0)) (Zc (i:=1) scZ0.nd rfl (Or.inl rfl))
   (Zz6 (Ze1 (Zi Ze9 (Zd (Zh K) (by rfl) T.n_len Boot.«len» (Zz0 (pv 1) Zz3)) (Zd (Zh K) (by rfl) T.n_len Boot.«len» (Zz0 (pv 0) Zz3)) (Zq _))
   (Zz6 Zt2)
   Zm)))),?_⟩
  have hxl:=hB.1;refine⟨_,rfl,a,rfl,Zp4 (K:=K) (k:=kd) (a:=a) (xs:=xs) (λi σ H2=>∃ v1,σ=[some (.ref a),v1]/\H2=H/\∀ l∈L.take i,l.length=L.length) ⟨none,rfl,rfl,λl h=>(by cases h)⟩ (λi σ H2 _ ⟨_,_,e,_⟩=>e ▸ hS) ?_ ?_⟩
  .rintro i v σ H2 hi ⟨v1,rfl,rfl,hall⟩;obtain⟨l,hl,r,k,rfl,hr⟩:=hB.at hi;refine nm ?_;refine⟨_,rfl,r,_,rfl,hr.or,_,rfl,a,xs,rfl,hS.or,rfl,_,rfl,?_⟩;rw[Zz5,Zw];refine itn2 (λe=>?_) (λe=>?_)
   .refine⟨_,rfl,rfl,λm hm=>?_⟩;rw[YS,hl]at hm;rcases Ya.mp hm with h | h
    .exact hall m h
    .have hm':m=l:=by simpa using h
     rw[hm'];lia
   .exact qe λh=>e (by rw[h l (Yy8 hl),hxl])
  .rintro σ H2 ⟨v1,rfl,rfl,hall⟩;rw[hxl,QP]at hall;exact q hall
def spZ1(K:Ad):Sp:=λvs H Q _=>∃(r p:Addr) (x y last:Int) (l q:Ac),vs=[.ref r,.ref p,.int last]/\SqL K H r (IL (x :: l))/\SqL K H p (IL (y :: q))/\l.length=q.length/\l.length<=1000/\last≠0/\last.natAbs<2 ^ 9000 /\
 (∀ z∈x :: l,z.natAbs<2 ^ 9000)/\(∀ z∈y :: q,z.natAbs<2 ^ 9000)/\∀(c:Addr) (H':Hp),Same H H'->H c=none->H' c=some (.lst (IL (tkn y q last (x :: l))))->Q (.ref c) H'
theorem scZ1:FnScope ["row","pivot","last"] ["row","pivot","last"] (Zz4 sZ1):=⟨rfl,rfl,rfl,by decide +kernel,rfl,by decide +kernel,by decide +kernel⟩
theorem okZ1 (T:Txt K mg t):FnOk P w K mg base CX0 1 t.aZ1 t.dZ1 ["row","pivot","last"] (spZ1 K):=by
 refine T.fZ1.ok scZ1 (λvs H Q E h=>?_) (λcdv A outer s H vs Q E hr h=>?_)
 .obtain⟨r,p,x,y,last,l,q,rfl,_⟩:=h;rfl
 .obtain⟨r,p,x,y,last,l,q',rfl,hR,hP,hlq,hl,l0,l1,hx,hy,q⟩:=h;refine⟨_,(Zz6 (Zk (ZP4 rfl (sc0:=Zz4 sZ1) (N0:=["row","pivot","last"]) (N':=["own","other","pivot","row","last"]) (o:=2) (fr:=[1,0,2]) ⟨rfl,by decide +kernel,by decide +kernel,by decide +kernel,rfl,by decide +kernel⟩ (Zz89 K rfl T.n_zip (Zz0 (Zh1 (Zg1 K) (pv 0) (ZG1 Zz8) ZH1) (Zz0 (Zh1 (Zg1 K) (pv 1) (ZG1 Zz8) ZH1) Zz3))) (Zz22 (ZH (by decide) (ZH (by decide) Zz32))) (λ_ _ _ _=>(Zz51 (n:=2) K rfl (Zl (Zc (i:=0) (show List.Nodup (["own","other","pivot","row","last"]:List Str) by decide +kernel) rfl (Or.inl rfl)) (Zl (Zc (i:=1) (show List.Nodup (["own","other","pivot","row","last"]:List Str) by decide +kernel) rfl (Or.inl rfl)) Zz41)))) (λ_ _ _ _=>ZS) (λ_ _ _ _=>(Zp Zf9 (Zp Zw3 (Zp ZL5 (ZL (Zj K) (pv 2) Zz8 (λ_ _=>rfl)) (pv 0)) (Zp ZL5 (ZL (Zj K) (pv 3) Zz8 (λ_ _=>rfl)) (pv 1))) (pv 4)))))),?_⟩;refine⟨_,rfl,_,rfl,r,_,rfl,hR,λp1 hp1=>?_⟩;rw[ZH6];have s1:=same_at (o:=.lst (IL l)) hp1
  refine⟨_,rfl,_,rfl,p,_,rfl,s1.seq hP,λp2 hp2=>?_⟩;rw[ZH6];have s2:=same_at (o:=.lst (IL q')) hp2
  have s12:=s1.trans s2;have h1:=s2 _ _ (Zz1 (H:=H) (a:=p1) (o:=.lst (IL l)))
  have h2:(upd (upd H p1 (.lst (IL l))) p2 (.lst (IL q'))) p2=some (.lst (IL q')):=Zz1;generalize upd (upd H p1 (.lst (IL l))) p2 (.lst (IL q'))=H2 at *;refine⟨p1,p2,rfl,⟨_,_,SqL.of h1,SqL.of h2⟩,Zf11 (K:=K) (a:=p1) (b:=p2) (xs:=IL l) (ys:=IL q') (λi zs H3=>Same H2 H3/\i<=l.length/\zs=IL ((tkn y q' last (x :: l)).take i)) ⟨Same.refl _,Yl _,rfl⟩ (by rwa[Zz5,Zz5]) (Zr (by rw[Zz5];lia))
   (λi zs H3 hi ⟨e,hi2,ez⟩=>⟨SqL.of (e _ _ h1),SqL.of (e _ _ h2),by rw[ez,Zz5,YI];lia⟩) ?_ ?_⟩
  .rintro i u v zs H3 pt hpt hu hv ⟨s3,hil,rfl⟩ S hSS;obtain⟨own,rfl,ho⟩:=Zb1 hu;obtain⟨oth,rfl,ht⟩:=Zb1 hv;have hil':=(Yy3.mp ho).1
   have s4:=same_at (o:=.tup [.int own,.int oth]) hpt;refine⟨pt,_,rfl,SqT.of Zz1,rfl,_,_,rfl,_,_,rfl,rfl,?_⟩;have s34:=s12.trans (s3.trans s4)
   have a1:=hy y Yk;have a2:=hx own (Yi _ (Yy8 ho))
   have a3:=hx x Yk;have a4:=hy oth (Yi _ (Yy8 ht))
   refine⟨_,rfl,p,_,0,.int y,rfl,rfl,s34.seq hP,ZN (n:=0) rfl rfl,_,rfl,_,_,rfl,rfl,⟨a1,a2⟩,_,rfl,r,_,0,.int x,rfl,rfl,s34.seq hR,ZN (n:=0) rfl rfl,_,rfl,_,_,rfl,rfl,⟨a3,a4⟩,_,_,rfl,rfl,_,rfl,_,_,rfl,rfl,⟨l0,l1⟩,?_⟩;refine hSS _ _ ⟨s3.trans s4,hil',?_⟩;have e:(tkn y q' last (x :: l))[i]?=some ((y * own - x * oth).fdiv last):=by show(List.zipWith _ l q')[i]?=_;rw[Y0O,ho,ht];rfl
   rw[YS,e];exact(Zd1 _ _).symm
  .rintro zs H3 ⟨s3,_,rfl⟩ c hc;rw[Zz5,Yy08 (by rw[ZP7 (by rw[Yz,hlq])];lia)];exact q c _ (s12.trans (s3.trans (same_at hc))) ((s12.trans s3).free hc) Zz1
def spZ2(K:Ad):Sp:=λvs H Q _=>∃(a:Addr) (ys:List V) (R:Ab),vs=[.ref a]/\SqL K H a ys/\Bears (ZZ6 H) ys R/\(∀ l∈R,0<l.length) /\
 (∀ H':Hp,Same H H'->(∀ i,i<R.length->fnL R i 0=0)->Q .non H')/\(∀(t:Nat) (H':Hp),Same H H'->t<R.length->fnL R t 0≠0->Q (.int t) H')
theorem scZ2:FnScope ["rows","at","row"] ["rows"] (Zz4 sZ2):=⟨rfl,rfl,rfl,by decide +kernel,rfl,by decide +kernel,by decide +kernel⟩
theorem okZ2 (T:Txt K mg t):FnOk P w K mg base CX0 1 t.aZ2 t.dZ2 ["rows"] (spZ2 K):=by
 refine T.fZ2.ok scZ2 (λvs H Q E h=>?_) (λcdv A outer s H vs Q E hr h=>?_)
 .obtain⟨a,ys,R,rfl,_⟩:=h;rfl
 .obtain⟨a,ys,R,rfl,hS,hB,hp,q0,q1⟩:=h;refine⟨_,(Zz2 (ZX YX rfl (Zz02 K rfl T.n_enumerate (Zz0 (pv 0) Zz3)) (Zz51 (n:=2) K rfl (Zl (Zc (i:=1) scZ2.nd rfl (Or.inl rfl)) (Zl (Zc (i:=2) scZ2.nd rfl (Or.inl rfl)) Zz41)))
   (Zz6 (Ze1 (Zi Ze9 (ZL (Zj K) (pv 2) Zz8 (λ_ _=>rfl)) Zz8 (Zq _))
   (Zz6 (Zk (pv 1)))
   Zm)))
   (Zz6 (Zk Zc7))),?_⟩
  have hyl:=hB.1;refine⟨_,rfl,a,rfl,⟨_,hS⟩,ZG3 (K:=K) (a:=a) (xs:=ys) (λi σ H2=>∃ v1 v2,σ=[some (.ref a),v1,v2]/\Same H H2/\∀ j,j<i->fnL R j 0=0) ⟨none,none,rfl,Same.refl _,λj h=>absurd h (Yy02 _)⟩ (λi σ H2 _ ⟨_,_,_,e,_⟩=>e.seq hS) ?_ ?_⟩
  .rintro i v σ H2 pt hpt hi ⟨v1,v2,rfl,s2,hz⟩;obtain⟨l,hl,r,rfl,hr⟩:=hB.at hi;have hlp:=hp l (Yy8 hl)
   obtain⟨x,l',rfl⟩:∃ x l',l=x :: l':=by
    cases l with
    | nil=>exact absurd hlp (Y0I 0)
    | cons x l'=>exact⟨x,l',rfl⟩
   have e0:fnL R i 0=x:=Zj2 hl rfl;have s3:=s2.trans (same_at (o:=.tup [.int i,.ref r]) hpt)
   refine⟨pt,_,rfl,SqT.of Zz1,rfl,_,_,rfl,_,_,rfl,rfl,?_⟩;generalize upd H2 pt (.tup [.int i,.ref r])=H3 at *;refine⟨_,rfl,r,_,0,.int x,rfl,rfl,SqL.of (s3 _ _ hr),ZN (n:=0) rfl rfl,rfl,_,rfl,?_⟩;rw[Zw];refine itn2 (λe=>?_) (λe=>?_)
   .refine⟨_,_,rfl,s3,λj hj=>?_⟩;by_cases c:j=i
    .rw[c,e0,e]
    .exact hz j (by lia)
   .exact⟨_,rfl,q1 i H3 s3 (by have:=(Yy3.mp hl).1;exact this) (by rwa[e0])⟩
  .rintro σ H2 ⟨v1,v2,rfl,s2,hz⟩;exact q0 H2 s2 λi hi=>hz i (by lia)
def spZ3(K:Ad):Sp:=λvs H Q _=>∃(a:Addr) (kd:Bool) (xs:List V) (L:Ab),vs=[.ref a]/\SqK kd K H a xs/\Bears (RowV K H) xs L/\L.length<=16/\(∀ i j,i<L.length->j<L.length->(fnL L i j).natAbs<=2 ^ 400) /\
 ((∀ l∈L,l.length=L.length)->∀ H':Hp,Same H H'->Q (.int (det L.length (fnL L))) H')/\(¬ (∀ l∈L,l.length=L.length)->∀ H':Hp,Same H H'->False)
theorem Zz013{s rest:TS}{D:Ends}{σ:L2.St}{H:Hp}(P:L2.St->Hp->Prop)(h1:∀ σ' H',P σ' H'->rest D σ' H')(h2:∀ K:L2.St->Hp->Prop,(∀ σ' H',P σ' H'->K σ' H')->s { D with nx:=K } σ H):tSeq s rest D σ H:=h2 _ h1
theorem scZ3:FnScope ["table","rows","sign","last","at","pivot"] ["table"] (Zz4 sZ3):=⟨rfl,rfl,rfl,by decide +kernel,rfl,by decide +kernel,by decide +kernel⟩
theorem okZ3 (T:Txt K mg t):FnOk P w K mg base CX0 2 t.aZ3 t.dZ3 ["table"] (spZ3 K):=by
 refine T.fZ3.ok scZ3 (λvs H Q E h=>?_) (λcdv A outer s H vs Q E hr h=>?_)
 .obtain⟨a,kd,xs,L,rfl,_⟩:=h;rfl
 .obtain⟨a,kd,xs,L,rfl,hS,hB,hL16,hA0,q,qe⟩:=h;refine⟨_,(Zz2 (ZC (Za (okZ0 T) (hr.mono (by decide)) rfl T.mZ0 T.fZ0.kp T.bZ0 .nil ZJ (Zz0 (pv 0) Zz3)))
   (Zz2 (Zz29 (i:=1) rfl scZ3.nd rfl rfl (sc0:=Zz4 sZ3) (N0:=["table","rows","sign","last","at","pivot"]) (N':=["row"]) (o:=1) (fr:=[]) ⟨rfl,by decide +kernel,by decide +kernel,by decide +kernel,rfl,by decide +kernel⟩ (ZZ1 K (pv 0)) (ZK (by decide)) (λ_ _ _ _=>(Zc (i:=0) (show List.Nodup (["row"]:List Str) by decide +kernel) rfl (Or.inl rfl))) (λ_ _ _ _=>ZS) (λ_ _ _ _=>(Zn (ZI K) (by rfl) T.n_list Boot.«list» (Zz0 (pv 0) Zz3))))
   (Zz2 (Ze (i:=2) scZ3.nd rfl (Or.inl rfl) Zz8)
   (Zz2 (Ze (i:=3) scZ3.nd rfl (Or.inr rfl) Zz8)
   (Zz2 (ZF5 YX (Zi ZX10 (Zd (Zh K) (by rfl) T.n_len Boot.«len» (Zz0 (pv 1) Zz3)) Zz8 (Zq _))
   (Zz2 (Ze (i:=4) scZ3.nd rfl (Or.inl rfl) (Za (okZ2 T) (hr.mono (by decide)) rfl T.mZ2 T.fZ2.kp T.bZ2 .nil ZJ (Zz0 (pv 1) Zz3)))
   (Zz2 (Ze1 (Zi ZW10 (pv 4) Zc7 (Zq _))
   (Zz6 (Zk Zz8))
   Zm)
   (Zz2 (Ze1 (Zi Zz33 (Zp ZF (pv 4) Zz8) Zz8 (Zq _))
   (Zz6 (Ze (i:=2) scZ3.nd rfl (Or.inl rfl) (Zz18 ZS2 (pv 2))))
   Zm)
   (Zz2 (Ze (i:=5) scZ3.nd rfl (Or.inr rfl) (Zq1 K YL PySem.F.slot_list_pop PySem.F.type_list_pop Zi9 (pv 1) (Zz0 (pv 4) Zz3)))
   (Zz2 (Zz29 (i:=1) rfl scZ3.nd rfl rfl (sc0:=Zz4 sZ3) (N0:=["table","rows","sign","last","at","pivot"]) (N':=["row","pivot","last"]) (o:=1) (fr:=[5,3]) ⟨rfl,by decide +kernel,by decide +kernel,by decide +kernel,rfl,by decide +kernel⟩ (ZY K (pv 1)) (ZK (by decide)) (λ_ _ _ _=>(Zc (i:=0) (show List.Nodup (["row","pivot","last"]:List Str) by decide +kernel) rfl (Or.inl rfl))) (λ_ _ _ _=>ZS) (λ_ _ _ _=>(Za (okZ1 T) (hr.mono (by decide)) rfl T.mZ1 T.fZ1.kp T.bZ1 .nil ZJ (Zz0 (pv 0) (Zz0 (pv 1) (Zz0 (pv 2) Zz3))))))
   (Zz6 (Ze (i:=3) scZ3.nd rfl (Or.inr rfl) (ZL (Zj K) (pv 5) Zz8 (λ_ _=>rfl))))))))))
   (Zz6 (Zk (Zp ZL5 (pv 2) (pv 3))))))))),?_⟩
  have hxl:=hB.1;refine⟨_,rfl,a,kd,xs,L,rfl,hS,hB,λhsq=>?_,λh=>qe h H (Same.refl H)⟩;have q:=q hsq
  obtain⟨n,hn⟩:∃ n,n=L.length:=⟨_,rfl⟩;rw[<- hn]at q hsq hA0 hL16;refine⟨_,rfl,a,rfl,Zg11 (K:=K) (k:=kd) (a:=a) (xs:=xs) (λi zs H2=>Same H H2/\i<=xs.length/\Bears (ZZ6 H2) zs (L.take i)) ⟨Same.refl _,Yl _,⟨rfl,λi l e=>by simp at e⟩⟩ (Zr (by lia)) (λi zs H2 hi ⟨e,hi2,ez⟩=>⟨hS.same e,by rw[ez.1,YI];lia⟩) ?_ ?_⟩
  .rintro i v zs H2 hi ⟨s2,hil,hZ⟩ S hSS;obtain⟨l,hl,r,k,rfl,hr⟩:=hB.at hi;have hil':=(Yy3.mp hi).1
   refine nm ?_;refine⟨_,rfl,r,_,rfl,(hr.same s2).or,λc hc=>hSS _ _ ⟨s2.trans (same_at hc),hil',?_⟩⟩;rw[YS,hl];refine(hZ.imp λ_ _ ⟨r',e,h⟩=>⟨r',e,same_at hc _ _ h⟩).snoc ⟨c,rfl,Zz1⟩
  rintro zs H2 ⟨s2,_,hZ⟩ rA hrA;rw[hxl,QP]at hZ;have s3:=s2.trans (same_at (o:=.lst zs) hrA)
  refine⟨λm σ H4=>∃(A:Mx) (k:Nat) (rA:Addr) (ys:List V) (R:Ab) (sgn last:Int) (v4 v5:Option V),σ=[some (.ref a),some (.ref rA),some (.int sgn),some (.int last),v4,v5]/\Same H H4/\H rA=none/\H4 rA=some (.lst ys)/\Bears (LiV rA H4) ys R/\R.length=m/\(∀ l∈R,l.length=m)/\k+m=n/\Bar A k m (fnL R) last/\det n (fnL L)=sgn * det n A/\(∀ i j,i<n->j<n->(A i j).natAbs<=2 ^ 400)/\(m=0->last=det n A)/\(sgn=1\/sgn=-1)/\last.natAbs<2 ^ 9000,⟨n,fnL L,0,rA,zs,L,1,1,none,none,rfl,s3,s2.free hrA,Zz1,?_,hn.symm,hsq,by lia,ZL7 _ _,by grind,hA0,λe=>by rw[e];rfl,.inl rfl,Nat.one_lt_two_pow (by decide)⟩,?_⟩
  .exact hZ.imp λv l ⟨r,e,h⟩=>⟨r,e,same_at hrA _ _ h,Zb h hrA⟩
  rintro m σ H4 ⟨A,k,rA,ys,R,sgn,last,v4,v5,rfl,s4,hr0,hr4,hR,hRm,hRl,hkm,hBar,hdet,hAb,hfin,hsg,hlb⟩;have hyl:=hR.1
  refine⟨_,rfl,rA,ys,rfl,.inl (SqL.of hr4),_,_,rfl,rfl,_,rfl,?_⟩;refine itd2 (λhpos=>?_) (λhpos=>?_)
  .obtain⟨M,rfl⟩:∃ M,m=M+1:=⟨m - 1,by lia⟩;refine⟨_,λσ' H' h=>⟨M,Y0i M,h⟩,?_⟩;have hsm:∀ l∈R,∀ z∈l,z.natAbs<2 ^ 9000:=λl hl z hz=>by
    obtain⟨i,hi⟩:=Y0f hl;obtain⟨j,hj⟩:=Y0f hz;have h1:=(Yy3.mp hi).1
    have h2:=(Yy3.mp hj).1;have h3:=hRl l hl
    have:=ZM7 hBar hkm hL16 hAb (i:=i) (j:=j) (by lia) (by lia)
    rwa[Zj2 hi hj]at this
   refine⟨_,rfl,rA,ys,R,rfl,SqL.of hr4,hR.imp λ_ _ h=>h.list,λl hl=>by rw[hRl l hl];lia,λH5 s5 h0=>?_,λt H5 s5 ht hne=>?_⟩
   .refine⟨_,rfl,rfl,_,rfl,?_⟩;refine itd (c:=V.non=V.non) rfl ?_;have z:det n A=0:=by
     have:=Zz410 hBar λi hi=>h0 i (by lia)
     rwa[show k+M+1=n by lia]at this
    rw[hdet,z,Y0w]at q;exact q H5 (s4.trans s5)
   refine⟨_,rfl,rfl,_,rfl,?_⟩;refine itdn (c:=V.int (t:Int)=V.non) (λz=>nomatch z) ?_;refine nm ?_;dsimp only;refine Zz013 (λσ H6=>∃ sgn':Int,H6=H5/\σ=[some (.ref a),some (.ref rA),some (.int sgn'),some (.int last),some (.int t),v5]/\sgn'=sgn * sg t) ?_ ?_
   .rintro σ H6 ⟨sgn',rfl,rfl,hsgn⟩;have hr6:=s5 _ _ hr4
    have hR6:=hR.imp λ_ _ h=>h.same s5;obtain⟨l,hl⟩:∃ l,R[t]?=some l:=⟨_,Yy2 ht⟩;have hll:=hRl l (Yy8 hl)
    obtain⟨y,p',rfl⟩:∃ y p',l=y :: p':=by
     cases l with
     | nil=>cases hll
     | cons y p'=>exact⟨y,p',rfl⟩
    have hpl:p'.length=M:=by rw[Yz]at hll;lia
    obtain⟨v,hv,pA,rfl,hpA,hpn⟩:=hR6.2 t _ hl;have hy0:y≠0:=by rwa[Zj2 hl rfl]at hne
    refine⟨_,rfl,.inl ⟨rfl,_,SqL.of hr6⟩,_,rfl,rA,ys,(t:Int),t,.ref pA,rfl,rfl,hr6,by lia,by lia,by rw[Zn12 (by lia) (by lia),Yw],hv,?_⟩;have hpA7:(upd H6 rA (.lst (ys.eraseIdx t))) pA=some (.lst (IL (y :: p'))):=by rwa[Zz9 hpn]
    have s7:Same H (upd H6 rA (.lst (ys.eraseIdx t))):=Zs hr0 (s4.trans s5);have hR7:Bears (LiV rA (upd H6 rA (.lst (ys.eraseIdx t)))) (ys.eraseIdx t) (R.eraseIdx t):=(hR6.erase t).imp λ_ _ h=>h.mut
    have hr7:(upd H6 rA (.lst (ys.eraseIdx t))) rA=some (.lst (ys.eraseIdx t)):=Zz1;generalize upd H6 rA (.lst (ys.eraseIdx t))=H7 at *;have eRl:(R.eraseIdx t).length=M:=by rw[Y0U,if_pos ht];lia
    have hRl7:∀ l∈R.eraseIdx t,l.length=M+1:=λl h=>hRl l (Y3h h);have hy7:=hR7.1
    refine⟨_,rfl,rA,rfl,⟨_,SqL.of hr7⟩,Zz83 (K:=K) (a:=rA) (xs:=ys.eraseIdx t) (λi zs H8=>Same H7 H8/\i<=(ys.eraseIdx t).length/\Bears (ZZ6 H8) zs (((R.eraseIdx t).take i).map (tkn y p' last))) ⟨Same.refl _,Yl _,⟨rfl,λi l e=>by simp at e⟩⟩ (Zr (by lia)) (λi zs H8 hi ⟨e,hi2,ez⟩=>⟨SqL.of (e _ _ hr7),by rw[ez.1,Yc,YI];lia⟩) ?_ ?_⟩
    .rintro i v zs H8 hi ⟨s8,hil,hZ8⟩ S hSS;obtain⟨l,hli,r,rfl,hr,_⟩:=hR7.at hi;have hil':=(Yy3.mp hi).1
     have hl2:=hRl7 l (Yy8 hli);obtain⟨x,l',rfl⟩:∃ x l',l=x :: l':=by
      cases l with
      | nil=>cases hl2
      | cons x l'=>exact⟨x,l',rfl⟩
     have hl':l'.length=M:=by rw[Yz]at hl2;lia
     refine nm ?_;refine⟨_,rfl,_,rfl,_,rfl,r,pA,x,y,last,l',p',rfl,SqL.of (s8 _ _ hr),SqL.of (s8 _ _ hpA7),by lia,by lia,hBar.1,hlb,hsm _ (Y3h (Yy8 hli)),hsm _ (Yy8 hl),λc H9 s9 hc0 hc=>hSS _ _ ⟨s8.trans s9,hil',?_⟩⟩;rw[YS,hli,YC];exact(hZ8.imp λ_ _ ⟨r',e,h⟩=>⟨r',e,s9 _ _ h⟩).snoc ⟨c,rfl,hc⟩
    rintro zs H8 ⟨s8,_,hZ8⟩ cA hcA;rw[hy7,QP]at hZ8;have s9:=same_at (o:=.lst zs) hcA
    refine⟨_,rfl,pA,_,0,.int y,rfl,rfl,SqL.of (s9 _ _ (s8 _ _ hpA7)),ZN (n:=0) rfl rfl,?_⟩;have hb1:Bar (λi=>A (rotN k t i)) k (M+1) (fnL ((y :: p') :: R.eraseIdx t)) last:=by rw[ZB10 hl];exact ZS11 hBar (by lia)
    have hb2:Bar (λi=>A (rotN k t i)) (k+1) M (fnL ((R.eraseIdx t).map (tkn y p' last))) y:=Zz310 hb1 hy0 λi j hi hj=>Zn10 hpl eRl hRl7 hi hj;have hdr:=Zy6 (n:=n) (k:=k) (t:=t) (A:=A) (by lia)
    refine⟨λi=>A (rotN k t i),k+1,cA,zs,(R.eraseIdx t).map (tkn y p' last),sgn',y,_,_,rfl,s7.trans (s8.trans s9),(s7.trans s8).free hcA,Zz1,?_,by rw[Yc];exact eRl,λl h=>?_,by lia,hb2,?_,λi j hi hj=>hAb _ _ ?_ hj,λe0=>?_,?_,hsm _ (Yy8 hl) y Yk⟩
    .exact hZ8.imp λv l ⟨r,e,h⟩=>⟨r,e,s9 _ _ h,Zb h hcA⟩
    .obtain⟨l0,h0,rfl⟩:=Yx.mp h;rw[ZP7 (by rw[hRl7 l0 h0,hpl]),hpl]
    .rw[hdr,hdet,hsgn,Y0k,<- Y0k (sg t),Zr13,Y0A]
    .unfold rotN;split
     .grind
     .split
      .lia
      .split <;> lia
    .subst e0
     have:=ZU11 hb1
     rwa[show k+1=n by lia]at this
    .rw[hsgn];have hst:sg t=1\/sg t=-1:=by
      unfold sg;split
      .exact .inl rfl
      .exact .inr rfl
     rcases hsg with e | e <;> rcases hst with f | f <;> rw[e,f]
     .exact .inl rfl
     .exact .inr rfl
     .exact .inr rfl
     .exact .inl rfl
   .intro Kn hK;refine⟨_,rfl,_,_,rfl,rfl,(by show(0:Int)<2;decide),rfl,_,rfl,?_⟩;rw[Zw];refine itd2 (λh1=>?_) (λh1=>?_)
    .refine⟨_,rfl,_,rfl,hK _ _ ⟨-sgn,rfl,rfl,?_⟩⟩;have e:sg t=-1:=by unfold sg;rw[if_neg (by lia)]
     rw[e];lia
    .refine hK _ _ ⟨sgn,rfl,rfl,?_⟩;have e:sg t=1:=by unfold sg;rw[if_pos (by lia)]
     rw[e];grind
  .have hm0:m=0:=by lia
   refine⟨_,rfl,_,rfl,_,_,rfl,rfl,⟨?_,hlb⟩,?_⟩
   .rcases hsg with e | e <;> rw[e] <;> exact Nat.one_lt_two_pow (by decide)
   .rw[hfin hm0]at *;rw[hdet]at q;exact q H4 s4
def spZ4(K:Ad):Sp:=λvs H Q _=>∃(a:Addr) (l:Ac) (i:Nat),vs=[.ref a,.int i]/\SqL K H a (IL l)/\l.length<=1000/\∀(r:Addr) (H':Hp),Same H H'->H r=none->H' r=some (.lst (IL (cutz l i)))->Q (.ref r) H'
theorem ZB9(l:Ac)(z:Int):cutz (IL l) z=IL (cutz l z):=by
 unfold cutz;show(l.map V.int).take _++(l.map V.int).drop _=(l.take _++l.drop _).map V.int
 rw[YC,List.map_take,List.map_drop]
theorem scZ4:FnScope ["row","number"] ["row","number"] (Zz4 sZ4):=⟨rfl,rfl,rfl,by decide +kernel,rfl,by decide +kernel,by decide +kernel⟩
theorem okZ4 (T:Txt K mg t):FnOk P w K mg base CX0 1 t.aZ4 t.dZ4 ["row","number"] (spZ4 K):=by
 refine T.fZ4.ok scZ4 (λvs H Q E h=>?_) (λcdv A outer s H vs Q E hr h=>?_)
 .obtain⟨a,l,i,rfl,_⟩:=h;rfl
 .obtain⟨a,l,i,rfl,hA,hl,q⟩:=h;refine⟨_,(Zz6 (Zk (Zp Zz011 (Zn (ZI K) (by rfl) T.n_list Boot.«list» (Zz0 (Zh1 (Zg1 K) (pv 0) ZH1 (ZG1 (pv 1))) Zz3)) (Zn (ZI K) (by rfl) T.n_list Boot.«list» (Zz0 (Zh1 (Zg1 K) (pv 0) (ZG1 (Zp Zo1 (pv 1) Zz8)) ZH1) Zz3))))),?_⟩;refine⟨_,rfl,_,rfl,(i:Int),rfl,a,_,rfl,hA,λp1 hp1=>?_⟩;have u1:=same_at (o:=.lst (cutV (IL l) none (some (i:Int)))) hp1
  refine⟨p1,_,rfl,.inl (SqL.of Zz1),λp2 hp2=>?_⟩;have u2:=same_at (o:=.lst (cutV (IL l) none (some (i:Int)))) hp2
  refine⟨_,rfl,_,rfl,_,_,rfl,rfl,_,rfl,a,_,rfl,(u1.trans u2).seq hA,λp3 hp3=>?_⟩;have u3:=same_at (o:=.lst (cutV (IL l) (some ((i:Int)+1)) none)) hp3
  refine⟨p3,_,rfl,.inl (SqL.of Zz1),λp4 hp4=>?_⟩;have u4:=same_at (o:=.lst (cutV (IL l) (some ((i:Int)+1)) none)) hp4
  have c1:=ZD1 (IL l) none (some (i:Int));have c2:=ZD1 (IL l) (some ((i:Int)+1)) none
  rw[Zz5]at c1 c2;refine⟨p2,p4,_,_,rfl,rfl,(u3.trans u4) _ _ Zz1,Zz1,Zk2 (by lia),λp5 hp5=>?_⟩;have u14:=u1.trans (u2.trans (u3.trans u4))
  refine q p5 _ (u14.trans (same_at hp5)) (u14.free hp5) ?_;rw[Zz1,ZN13 (by lia),ZB9]
def spZ5(K:Ad):Sp:=λvs H Q _=>∃(a:Addr) (ys:List V) (L:Ab) (i:Nat),vs=[.ref a,.int i]/\SqL K H a ys/\Bears (ZZ6 H) ys L/\L.length<=1000/\(∀ l∈L,l.length<=1000)/\i<L.length /\
 ∀(r:Addr) (zs:List V) (H':Hp),Same H H'->H' r=some (.lst zs)->Bears (ZZ6 H') zs ((cutz L i).map λl=>cutz l (i:Int))->Q (.ref r) H'
theorem Yz4{α:Type}{l:List α}{i j:Nat}{x:α}(hx:l[j]?=some x):cutz (l.take (j+1)) (i:Int)=cutz (l.take j) (i:Int)++(if j=i then [] else [x]):=by
 have hj:=(Yy3.mp hx).1;have e:l.take (j+1)=l.take j++[x]:=by rw[YS,hx];rfl
 have hl:(l.take j).length=j:=by rw[YI];grind
 have short:∀ m:List α,m.length<=i->cutz m (i:Int)=m:=λm hm=>by unfold cutz;rw[Yw,Yy08 hm,Y0Y (by lia),YO]
 rw[e];by_cases c:j=i
 .subst c;rw[if_pos rfl,YO,short (l.take j) (by lia)];unfold cutz;rw[Yw,Y2L (by lia),Y0Y (by rw[Yy5,hl];exact Yy6 _),YO,Yy08 (by lia)]
 .rw[if_neg c];by_cases d:j<i
  .rw[short (l.take j++[x]) (by rwa[Yy5,hl]),short (l.take j) (by lia)]
  .unfold cutz;rw[Yw,Y2L (by grind),List.drop_append_of_le_length (by lia),Yy09]
theorem scZ5:FnScope ["table","number"] ["table","number"] (Zz4 sZ5):=⟨rfl,rfl,rfl,by decide +kernel,rfl,by decide +kernel,by decide +kernel⟩
theorem okZ5 (T:Txt K mg t):FnOk P w K mg base CX0 2 t.aZ5 t.dZ5 ["table","number"] (spZ5 K):=by
 refine T.fZ5.ok scZ5 (λvs H Q E h=>?_) (λcdv A outer s H vs Q E hr h=>?_)
 .obtain⟨a,ys,L,i,rfl,_⟩:=h;rfl
 .obtain⟨a,ys,L,i,rfl,hA,hB,hL,hLl,hi,q⟩:=h;refine⟨_,(Zz6 (Zk (ZP4 rfl (sc0:=Zz4 sZ5) (N0:=["table","number"]) (N':=["at","row","number"]) (o:=2) (fr:=[1]) ⟨rfl,by decide +kernel,by decide +kernel,by decide +kernel,rfl,by decide +kernel⟩ (Zz02 K rfl T.n_enumerate (Zz0 (pv 0) Zz3)) (Zz22 (ZH (by decide) (ZH (by decide) Zz32))) (λ_ _ _ _=>(Zz51 (n:=2) K rfl (Zl (Zc (i:=0) (show List.Nodup (["at","row","number"]:List Str) by decide +kernel) rfl (Or.inl rfl)) (Zl (Zc (i:=1) (show List.Nodup (["at","row","number"]:List Str) by decide +kernel) rfl (Or.inl rfl)) Zz41)))) (λ_ _ _ _=>(ZY2 (Zi Ze9 (pv 0) (pv 2) (Zq _)))) (λ_ _ _ _=>(Za (okZ4 T) (hr.mono (by decide)) rfl T.mZ4 T.fZ4.kp T.bZ4 .nil ZJ (Zz0 (pv 1) (Zz0 (pv 2) Zz3))))))),?_⟩;have hyl:=hB.1
  refine⟨_,rfl,a,rfl,⟨_,hA⟩,Zb8 (K:=K) (a:=a) (xs:=ys) (λj zs H2=>Same H H2/\j<=ys.length/\Bears (ZZ6 H2) zs ((cutz (L.take j) (i:Int)).map λl=>cutz l (i:Int))) ⟨Same.refl _,Yl _,by rw[show(cutz (L.take 0) (i:Int)).map (λl=>cutz l (i:Int))=[] by unfold cutz;simp];exact⟨rfl,λi l e=>by simp at e⟩⟩ (Zr (by lia)) (λj zs H2 hj ⟨e,hj2,ez⟩=>⟨e.seq hA,by
   rw[ez.1,Yc];refine YD (ZU9 _ _) ?_;rw[YI]
   lia⟩) ?_ ?_⟩
  .rintro j v zs H2 pt hpt hj ⟨s2,hjl,hZ⟩ S hSS;obtain⟨l,hl,r,rfl,hr⟩:=hB.at hj;have hjl':=(Yy3.mp hj).1
   have s3:=same_at (o:=.tup [.int j,.ref r]) hpt;refine⟨pt,_,rfl,SqT.of Zz1,rfl,_,_,rfl,_,_,rfl,rfl,?_⟩;have hZ3:Bears (ZZ6 (upd H2 pt (.tup [.int j,.ref r]))) zs ((cutz (L.take j) (i:Int)).map λl=>cutz l (i:Int)):=hZ.imp λ_ _ ⟨r',e,h⟩=>⟨r',e,s3 _ _ h⟩
   have s23:=s2.trans s3;generalize upd H2 pt (.tup [.int j,.ref r])=H3 at *;refine⟨_,rfl,_,rfl,rfl,_,rfl,?_⟩;rw[Zw];refine itn2 (λe=>?_) (λe=>?_)
   .refine hSS _ _ ⟨s23,hjl',?_⟩;rwa[Yz4 hl,if_pos (by lia),YO]
   .refine⟨_,rfl,_,rfl,r,l,i,rfl,SqL.of (s23 _ _ hr),hLl l (Yy8 hl),λc H4 s4 _ hc=>hSS _ _ ⟨s23.trans s4,hjl',?_⟩⟩;rw[Yz4 hl,if_neg (by lia),YC];exact(hZ3.imp λ_ _ ⟨r',e,h⟩=>⟨r',e,s4 _ _ h⟩).snoc ⟨c,rfl,hc⟩
  .rintro zs H2 ⟨s2,_,hZ⟩ p hp;rw[hyl,QP]at hZ;exact q p zs _ (s2.trans (same_at hp)) Zz1 (hZ.imp λ_ _ ⟨r',e,h⟩=>⟨r',e,same_at hp _ _ h⟩)
def spZ6(C:Addr):Sp:=λvs H Q _=>∃(w:Addr) (n:Int) (ps:Aa) (k:Int),vs=[.ref w,.int k]/\WebAt C H w n ps/\Q (.bl (decide (0<=k/\k<(ps.length:Int)))) H
theorem scZ6:FnScope ["web","number"] ["web","number"] (Zz4 sZ6):=⟨rfl,rfl,rfl,by decide +kernel,rfl,by decide +kernel,by decide +kernel⟩
theorem okZ6 (T:Txt K mg t):FnOk P w K mg base CX0 1 t.aZ6 t.dZ6 ["web","number"] (spZ6 t.A_Web):=by
 refine T.fZ6.ok scZ6 (λvs H Q E h=>?_) (λcdv A outer s H vs Q E hr h=>?_)
 .obtain⟨w,n,ps,k,rfl,_⟩:=h;rfl
 .obtain⟨w,n,ps,k,rfl,⟨dx,tl,xs,h1,h2,h3⟩,q⟩:=h;refine⟨_,(Zz6 (Zk (Za9 Za10 ZM5 Zz8 (pv 1) (Zd (Zh K) (by rfl) T.n_len Boot.«len» (Zz0 (ZO K (pv 0) rfl) Zz3))))),?_⟩;refine⟨_,rfl,_,_,rfl,rfl,_,rfl,?_⟩;refine ite2 (λhc=>?_) (λhc=>?_)
  .refine⟨_,rfl,w,_,dx,_,_,rfl,h1,T.cl_Web,T.n_Web_ties,Zr1 _ _,tl,xs,rfl,.inl (SqL.of h2),_,_,rfl,rfl,?_⟩;have hc:=Yy hc
   show Q (.bl (decide (k<(xs.length:Int)))) H;rwa[h3.1,show decide (k<(ps.length:Int))=decide (0<=k/\k<(ps.length:Int)) from by simp[hc]]
  .have hc:¬ (0<=k):=λz=>hc (Yt z);show Q (.bl false) H
   rwa[show(false:Bool)=decide (0<=k/\k<(ps.length:Int)) from by simp;lia]
def spZ7(K:Ad):Sp:=λvs H Q _=>∃(n:Int) (a:Addr) (kd:Bool) (xs:List V) (ps:Aa),vs=[.int n,.ref a]/\SqK kd K H a xs/\PairsV H xs ps/\Zy n ps/\Q .non H
theorem scZ7:FnScope ["places","ties","ends","end"] ["places","ties"] (Zz4 sZ7):=⟨rfl,rfl,rfl,by decide +kernel,rfl,by decide +kernel,by decide +kernel⟩
theorem okZ7 (T:Txt K mg t):FnOk P w K mg base CX0 1 t.aZ7 t.dZ7 ["places","ties"] (spZ7 K):=by
 refine T.fZ7.ok scZ7 (λvs H Q E h=>?_) (λcdv A outer s H vs Q E hr h=>?_)
 .obtain⟨n,a,kd,xs,ps,rfl,_⟩:=h;rfl
 .obtain⟨n,a,kd,xs,ps,rfl,hS,hp,⟨g1,g2,g3,g4⟩,q⟩:=h;refine⟨_,(Zz2 (Ze1 (Zq3 (Zr3 Za10 Za10 Zz8 (pv 0) (Zz12 (v:=V.int 14) rfl T.g_MOST_PLACES.choose_spec ⟨_,rfl⟩)))
   (Zz6 Zt2)
   Zm)
   (Zz2 (Ze1 (Zi ZX10 (Zd (Zh K) (by rfl) T.n_len Boot.«len» (Zz0 (pv 1) Zz3)) (Zz12 (v:=V.int 30) rfl T.g_MOST_TIES.choose_spec ⟨_,rfl⟩) (Zq _))
   (Zz6 Zt2)
   Zm)
   (Zz6 (ZX YX rfl (ZZ1 K (pv 1)) (Zc (i:=2) scZ7.nd rfl (Or.inl rfl))
   (Zz6 (ZX YX rfl (ZY1 K (pv 2)) (Zc (i:=3) scZ7.nd rfl (Or.inl rfl))
   (Zz6 (Ze1 (Zq3 (Zr3 Za10 ZM5 Zz8 (pv 3) (pv 0)))
   (Zz6 Zt2)
   Zm)))))))),?_⟩
  refine⟨_,rfl,_,_,rfl,rfl,_,rfl,?_⟩;refine itd g1 ?_;refine⟨_,_,rfl,rfl,_,rfl,?_⟩;refine itn g2 ?_;refine⟨_,rfl,a,xs,rfl,hS.or,_,_,rfl,rfl,_,rfl,?_⟩;refine itdn (by rw[hp.1];lia) ?_;refine⟨_,rfl,a,rfl,Zp4 (k:=kd) (K:=K) (xs:=xs) (λi σ H2=>∃ v v2,σ=[some (.int n),some (.ref a),v,v2]/\H2=H) ⟨none,none,rfl,rfl⟩ (λi σ H2 _ ⟨_,_,_,e⟩=>e ▸ hS) ?_ ?_⟩
  .rintro i x σ H2 hi ⟨v,v2,rfl,rfl⟩;obtain⟨p,hpi,tt,rfl,ht⟩:=hp.at hi;obtain⟨e1,e2,e3,e4⟩:=g4 p (Yy8 hpi);refine⟨_,rfl,tt,rfl,⟨_,SqT.of ht⟩,Zp6 (K:=K) (a:=tt) (xs:=[.int p.1,.int p.2]) (λj σ H3=>∃ v v2,σ=[some (.int n),some (.ref a),v,v2]/\H3=H2) ⟨_,_,rfl,rfl⟩ (λj σ H3 _ ⟨_,_,_,e⟩=>e ▸ SqT.of ht) ?_ ?_⟩
   .rintro j y σ H3 hj ⟨v,v2,rfl,rfl⟩;have hy:∃ z:Int,y=.int z/\0<=z/\z<n:=by
     match j,hj with
     | 0,hj=>exact⟨p.1,(Yd hj).symm,e1,e2⟩
     | 1,hj=>exact⟨p.2,(Yd hj).symm,e3,e4⟩
    obtain⟨z,rfl,z1,z2⟩:=hy;refine⟨_,rfl,_,_,rfl,rfl,_,rfl,?_⟩;refine itd z1 ?_;refine⟨_,rfl,_,_,rfl,rfl,_,rfl,?_⟩;refine itn z2 ?_;exact⟨_,_,rfl,rfl⟩
   .rintro σ H3 ⟨v,v2,rfl,rfl⟩;exact⟨_,_,rfl,rfl⟩
  .rintro σ H2 ⟨v,v2,rfl,rfl⟩;exact q
def ZM4(K:Ad)(C:Addr):Sp:=λvs H Q _=>∃(w dx:Addr) (n:Int) (a:Addr) (kd:Bool) (xs:List V) (ps:Aa),vs=[.ref w,.int n,.ref a]/\H w=some (.ins C dx [])/\(∀ o,SqK kd K (upd H w o) a xs)/\PairsV H xs ps/\Zy n ps /\
 ∀ H':Hp,WebAt C H' w n ps->(∀ b o,H b=some o->b≠w->H' b=some o)->Q .non H'
theorem scZ8:FnScope ["self","places","ties"] ["self","places","ties"] (Zz4 sZ8):=⟨rfl,rfl,rfl,by decide +kernel,rfl,by decide +kernel,by decide +kernel⟩
theorem okZ8 (T:Txt K mg t):FnOk P w K mg base CX0 2 t.aZ8 t.dZ8 ["self","places","ties"] (ZM4 K t.A_Web):=by
 refine T.fZ8.ok scZ8 (λvs H Q E h=>?_) (λcdv A outer s H vs Q E hr h=>?_)
 .obtain⟨w,dx,n,a,kd,xs,ps,rfl,_⟩:=h;rfl
 .obtain⟨w,dx,n,a,kd,xs,ps,rfl,hw,hS,hp,g,q⟩:=h;have eH:upd H w (.ins t.A_Web dx [])=H:=by
   funext b
   by_cases hb:b=w
   .subst hb;rw[Zz1,hw]
   .rw[Zz9 hb]
  have hS0:SqK kd K H a xs:=by have z:=hS (.ins t.A_Web dx []);rwa[eH]at z
  refine⟨_,(Zz2 (ZC (Za (okZ7 T) (hr.mono (by decide)) rfl T.mZ7 T.fZ7.kp T.bZ7 .nil ZJ (Zz0 (pv 1) (Zz0 (pv 2) Zz3))))
   (Zz2 (ZK10 (pv 0) (pv 1) rfl)
   (Zz6 (ZK10 (pv 0) (ZP4 rfl (sc0:=Zz4 sZ8) (N0:=["self","places","ties"]) (N':=["ends"]) (o:=1) (fr:=[]) ⟨rfl,by decide +kernel,by decide +kernel,by decide +kernel,rfl,by decide +kernel⟩ (ZZ1 K (pv 2)) (ZK (by decide)) (λ_ _ _ _=>(Zc (i:=0) (show List.Nodup (["ends"]:List Str) by decide +kernel) rfl (Or.inl rfl))) (λ_ _ _ _=>ZS) (λ_ _ _ _=>(ZE (Zz0 (ZL (ZD K) (pv 0) Zz8 (λ_ _=>rfl)) (Zz0 (ZL (ZD K) (pv 0) Zz8 (λ_ _=>rfl)) Zz3))))) rfl)))),?_⟩
  refine⟨_,rfl,_,rfl,n,a,kd,xs,ps,rfl,hS0,hp,g,?_⟩;refine⟨_,rfl,_,rfl,w,_,dx,[],rfl,hw,T.cl_Web,T.n_Web_places,(by show 0<1000;decide),?_⟩;have hp1:PairsV (upd H w (.ins t.A_Web dx (putF "places" (.int n) []))) xs ps:=⟨hp.1,λi p e=>by obtain⟨v,e1,tt,e2,e3⟩:=hp.2 i p e;exact⟨v,e1,tt,e2,by rwa[Zz9 (Zb4 e3 hw (λz=>nomatch z))]⟩⟩
  have sx:xs.length<sizeLine:=Zr (by rw[hp.1];have:=g.2.2.1;lia);refine⟨_,rfl,a,rfl,Zg11 (k:=kd) (K:=K) (xs:=xs) (λi ys H2=>i<=xs.length/\ys.length=i/\Same (upd H w (.ins t.A_Web dx (putF "places" (.int n) []))) H2/\PairsV H2 ys (ps.take i)) ⟨Yl _,rfl,Same.refl _,PairsV.nil⟩ sx
   (λi ys H2 _ ⟨_,hl,s2,_⟩=>⟨(hS _).same s2,Nat.le_of_eq hl⟩) ?_ ?_⟩
  .rintro i x ys H2 hi ⟨h1,hl,s2,hy⟩ S hSS;obtain⟨p,hpi,tt,rfl,ht⟩:=hp1.at hi;have ht2:=s2 _ _ ht
   refine nmY ?_;refine⟨_,rfl,tt,_,0,.int p.1,rfl,rfl,SqT.of ht2,rfl,_,rfl,tt,_,1,.int p.2,rfl,rfl,SqT.of ht2,rfl,(by show 2<=sizeLine;decide),λq hq=>?_⟩;have hil:i<xs.length:=(Yy3.mp hi).1
   refine hSS _ _ ⟨hil,by rw[Yy5,hl];rfl,ZW s2 hq,?_⟩;rw[YS,hpi];exact(hy.same (same_at hq)).snoc ⟨q,rfl,Zz1⟩
  .rintro ys H2 ⟨_,hl,s2,hy⟩ tl htl;have hw2:=s2 w _ Zz1
   have nwt:w≠tl:=Zb hw2 htl;refine⟨_,rfl,w,_,dx,_,rfl,(by rwa[Zz9 nwt]),T.cl_Web,T.n_Web_ties,(by show 1<1000;decide),?_⟩;refine q _ ⟨dx,tl,ys,Zz1,by rw[Zz9 (YR nwt),Zz1],?_⟩ λb ob e hb=>?_
   .have e1:ps.take xs.length=ps:=Yy08 (by rw[hp.1];exact Yy6 _);rw[e1]at hy;refine⟨hy.1,λi p e=>?_⟩;obtain⟨v,e2,tt,e3,e4⟩:=hy.2 i p e;exact⟨v,e2,tt,e3,by rwa[Zz9 (Zb4 e4 hw2 (λz=>nomatch z)),Zz9 (Zb e4 htl)]⟩
   .have e2:=s2 b ob (by rwa[Zz9 hb]);rwa[Zz9 hb,Zz9 (Zb e2 htl)]
def spZ9(K:Ad)(C R:Addr):Sp:=λvs H Q E=>∃(w a:Addr) (n:Int) (ps:Aa) (kd:Bool) (ws:Ac),vs=[.ref w,.ref a]/\WebAt C H w n ps/\SqK kd K H a (IL ws) /\
 (ws.length=ps.length->Q .non H)/\(ws.length≠ps.length->E (.ref R) none H)
theorem scZ9:FnScope ["web","numbers"] ["web","numbers"] (Zz4 sZ9):=⟨rfl,rfl,rfl,by decide +kernel,rfl,by decide +kernel,by decide +kernel⟩
theorem okZ9 (T:Txt K mg t):FnOk P w K mg base (CXW P w) 1 t.aZ9 t.dZ9 ["web","numbers"] (spZ9 K t.A_Web t.A_BadRow):=by
 refine T.fZ9.okX scZ9 (λvs H Q E h=>?_) (λcdv A outer s H vs Q E hr h=>?_)
 .obtain⟨w,a,n,ps,kd,ws,rfl,_⟩:=h;rfl
 .obtain⟨w,a,n,ps,kd,ws,rfl,⟨dx,tl,xs,h1,h2,h3⟩,hS,q,qe⟩:=h;refine⟨_,(Zz6 (Ze1 (Zi Ze9 (Zd (Zh K) (by rfl) T.n_len Boot.«len» (Zz0 (pv 1) Zz3)) (Zd (Zh K) (by rfl) T.n_len Boot.«len» (Zz0 (ZO K (pv 0) rfl) Zz3)) (Zq _))
   (Zz6 (ZV1 T.x_BadRow T.c_BadRow (Zz0 ZU Zz3)))
   Zm)),?_⟩
  have hl:=h3.1;refine⟨_,rfl,a,_,rfl,hS.or,_,rfl,w,_,dx,_,_,rfl,h1,T.cl_Web,T.n_Web_ties,Zr1 _ _,tl,xs,rfl,.inl (SqL.of h2),rfl,_,rfl,?_⟩;rw[Zw,Zz5];refine itn2 (λhc=>?_) (λhc=>?_)
  .exact q (by lia)
  .exact⟨by show 1<=sizeLine;decide,qe (by lia)⟩
def spZa(K:Ad)(C:Addr):Sp:=λvs H Q _=>∃(w:Addr) (n:Int) (ps:Aa),vs=[.ref w]/\WebAt C H w n ps/\ps.length<=1000 /\
 ∀(r:Addr) (H':Hp),Same H H'->H r=none->H' r=some (.tup (IL (rgL ps.length)))->Q (.ref r) H'
theorem scZa:FnScope ["web"] ["web"] (Zz4 sZa):=⟨rfl,rfl,rfl,by decide +kernel,rfl,by decide +kernel,by decide +kernel⟩
theorem okZa (T:Txt K mg t):FnOk P w K mg base CX0 1 t.aZa t.dZa ["web"] (spZa K t.A_Web):=by
 refine T.fZa.ok scZa (λvs H Q E h=>?_) (λcdv A outer s H vs Q E hr h=>?_)
 .obtain⟨w,n,ps,rfl,_⟩:=h;rfl
 .obtain⟨w,n,ps,rfl,⟨dx,tl,xs,h1,h2,h3⟩,hl,q⟩:=h;refine⟨_,(Zz6 (Zk (Zn (Zw1 rfl) (by rfl) T.n_tuple Boot.«tuple» (Zz0 (Zn ZM2 (by rfl) T.n_range Boot.«range» (Zz0 (Zd (Zh K) (by rfl) T.n_len Boot.«len» (Zz0 (ZO K (pv 0) rfl) Zz3)) Zz3)) Zz3)))),?_⟩;have hx:=h3.1
  refine⟨_,rfl,w,_,dx,_,_,rfl,h1,T.cl_Web,T.n_Web_ties,Zr1 _ _,tl,xs,rfl,.inl (SqL.of h2),_,rfl,λr hr=>⟨r,0,_,rfl,Zz1,⟨by decide,by decide,by lia,by lia⟩,by lia,λl hl=>?_⟩⟩;refine q l _ (ZW (same_at hr) hl) ((same_at hr).free hl) ?_;rw[Zz1,hx,ZX8]
def spZb:Sp:=λ_ _ _ _=>False
theorem scZb:FnScope ["web","ties"] ["web","ties"] (Zz4 sZb):=⟨rfl,rfl,rfl,by decide +kernel,rfl,by decide +kernel,by decide +kernel⟩
theorem okZb (T:Txt K mg t):FnOk P w K mg base CX0 1 t.aZb t.dZb ["web","ties"] spZb:=by
 refine T.fZb.ok scZb (λvs H Q E h=>?_) (λcdv A outer s H vs Q E hr h=>?_)
 .exact False.elim h
 .exact False.elim h
def spZc:Sp:=λ_ _ _ _=>False
theorem scZc:FnScope ["ties","left_out"] ["ties","left_out"] (Zz4 sZc):=⟨rfl,rfl,rfl,by decide +kernel,rfl,by decide +kernel,by decide +kernel⟩
theorem okZc (T:Txt K mg t):FnOk P w K mg base CX0 1 t.aZc t.dZc ["ties","left_out"] spZc:=by
 refine T.fZc.ok scZc (λvs H Q E h=>?_) (λcdv A outer s H vs Q E hr h=>?_)
 .exact False.elim h
 .exact False.elim h
def spZd(K:Ad)(C:Addr):Sp:=λvs H Q _=>∃(w a:Addr) (n:Int) (ps:Aa) (kd:Bool) (ns:Ac),vs=[.ref w,.ref a]/\WebAt C H w n ps/\SqK kd K H a (IL ns)/\∀ b:Bool,(b=true↔IsSet ps.length ns)->Q (.bl b) H
theorem scZd:FnScope ["web","ties","last","tie"] ["web","ties"] (Zz4 sZd):=⟨rfl,rfl,rfl,by decide +kernel,rfl,by decide +kernel,by decide +kernel⟩
theorem okZd (T:Txt K mg t):FnOk P w K mg base CX0 2 t.aZd t.dZd ["web","ties"] (spZd K t.A_Web):=by
 refine T.fZd.ok scZd (λvs H Q E h=>?_) (λcdv A outer s H vs Q E hr h=>?_)
 .obtain⟨w,a,n,ps,kd,ns,rfl,_⟩:=h;rfl
 .obtain⟨w,a,n,ps,kd,ns,rfl,hW,hS,q⟩:=h;refine⟨_,(Zz2 (Ze (i:=2) scZd.nd rfl (Or.inl rfl) (Zz18 ZS2 Zz8))
   (Zz2 (ZX YX rfl (ZZ1 K (pv 1)) (Zc (i:=3) scZd.nd rfl (Or.inl rfl))
   (Zz2 (Ze1 (PW.pt (Zz913 (Zi Za10 (pv 3) (pv 2) (Zq _)) (ZI10 (Zq3 (ZE5 (Za (okZ6 T) (hr.mono (by decide)) rfl T.mZ6 T.fZ6.kp T.bZ6 .nil ZJ (Zz0 (pv 0) (Zz0 (pv 3) Zz3))))))))
   (Zz6 (Zk ZT10))
   Zm)
   (Zz6 (Ze (i:=2) scZd.nd rfl (Or.inl rfl) (pv 3)))))
   (Zz6 (Zk ZT10)))),?_⟩
  refine⟨_,rfl,?_⟩;refine⟨_,rfl,a,rfl,Zp4 (k:=kd) (K:=K) (xs:=IL ns) (λi σ H2=>∃(l:Int) (v:Option V),σ=[some (.ref w),some (.ref a),some (.int l),v]/\H2=H/\(i=0->l=-1)/\(i≠0->ns[i - 1]?=some l)/\∀ j z,j<i->ns[j]?=some z->0<=z/\z<(ps.length:Int)/\∀ y,j≠0->ns[j - 1]?=some y->y<z)
   ⟨-1,none,rfl,rfl,λ_=>rfl,λz=>absurd rfl z,λj z hj=>absurd hj (Yy02 j)⟩ (λi σ H2 _ ⟨_,_,_,e,_⟩=>e ▸ hS) ?_ ?_⟩
  .rintro i x σ H2 hi ⟨l,v,rfl,rfl,hl0,hl1,hp⟩;obtain⟨z,rfl,hz⟩:=Zb1 hi;refine⟨_,rfl,_,rfl,_,_,rfl,rfl,_,rfl,?_⟩;refine itd2 (λhc=>?_) (λhc=>?_)
   .-- tie<=last
    refine iteT ?_;refine q false ⟨λz=>(nomatch z),λhs=>?_⟩;obtain⟨b1,b2,b3⟩:=hs i z hz;by_cases h0:i=0
    .have:=hl0 h0;lia
    .have:=b3 l h0 (hl1 h0);lia
   .refine⟨_,rfl,_,rfl,w,n,ps,z,rfl,hW,_,rfl,?_⟩;refine itn2 (λhc2=>?_) (λhc2=>?_)
    .refine⟨_,rfl,?_⟩;refine⟨z,_,rfl,rfl,λe=>(nomatch e),λ_=>by simpa using hz,λj y hj ey=>?_⟩;by_cases hji:j<i
     .exact hp j y hji ey
     .have e:j=i:=by lia
      subst e;rw[hz]at ey;cases ey;refine⟨hc2.1,hc2.2,λy h0 ey=>?_⟩;rw[hl1 h0]at ey;cases ey;lia
    .refine q false ⟨λz=>(nomatch z),λhs=>?_⟩;obtain⟨b1,b2,b3⟩:=hs i z hz;exact absurd ⟨b1,b2⟩ hc2
  .rintro σ H2 ⟨l,v,rfl,rfl,hl0,hl1,hp⟩;refine q true ⟨λ_ i z hz=>?_,λ_=>rfl⟩;have hi:i<(IL ns).length:=by rw[Zz5];exact(Yy3.mp hz).1
   exact hp i z hi hz
def spZe(K:Ad)(C B:Addr):Sp:=λvs H Q E=>∃(w a:Addr) (n:Int) (ps:Aa) (kd:Bool) (ns:Ac),vs=[.ref w,.ref a]/\WebAt C H w n ps/\SqK kd K H a (IL ns) /\
 (IsSet ps.length ns->∀(r:Addr) (H':Hp),Same H H'->SqT K H' r (IL ns)->Q (.ref r) H')/\(¬ IsSet ps.length ns->E (.ref B) none H)
theorem scZe:FnScope ["web","ties"] ["web","ties"] (Zz4 sZe):=⟨rfl,rfl,rfl,by decide +kernel,rfl,by decide +kernel,by decide +kernel⟩
theorem okZe (T:Txt K mg t):FnOk P w K mg base (CXW P w) 3 t.aZe t.dZe ["web","ties"] (spZe K t.A_Web t.A_BadSet):=by
 refine T.fZe.okX scZe (λvs H Q E h=>?_) (λcdv A outer s H vs Q E hr h=>?_)
 .obtain⟨w,a,n,ps,kd,ns,rfl,_⟩:=h;rfl
 .obtain⟨w,a,n,ps,kd,ns,rfl,hW,hS,q,qe⟩:=h;refine⟨_,(Zz2 (Ze1 (Zq3 (ZE5 (Za (okZd T) (hr.mono (by decide)) rfl T.mZd T.fZd.kp T.bZd .nil ZJ (Zz0 (pv 0) (Zz0 (pv 1) Zz3)))))
   (Zz6 (ZV1 T.x_BadSet T.c_BadSet (Zz0 ZU Zz3)))
   Zm)
   (Zz6 (Zk (Zn (ZE1 K) (by rfl) T.n_tuple Boot.«tuple» (Zz0 (pv 1) Zz3))))),?_⟩
  refine⟨_,rfl,_,rfl,w,a,n,ps,kd,ns,rfl,hW,hS,λb hb=>⟨_,rfl,?_⟩⟩;refine itnb (λz=>?_) (λz=>?_)
  .refine⟨_,rfl,a,IL ns,rfl,?_⟩;cases kd with
   | false=>exact .inl ⟨hS,λl hl=>q (hb.mp z) l _ (same_at hl) (SqT.of Zz1)⟩
   | true=>exact .inr ⟨hS,q (hb.mp z) a H (Same.refl H) hS⟩
  .exact⟨by show 1<=sizeLine;decide,qe λhI=>by rw[hb.mpr hI]at z;cases z⟩
def spZf(K:Ad)(C:Addr):Sp:=λvs H Q _=>∃(w m a:Addr) (n:Int) (ps:Aa) (M:Ac) (kd:Bool) (ns:Ac),vs=[.ref w,.ref m,.ref a]/\WebAt C H w n ps/\Zy n ps/\H m=some (.lst (IL M))/\M.length=n.toNat/\SqK kd K H a (IL ns)/\(∀ z∈ns,0<=z/\z<(ps.length:Int)) /\
 ∀(m':Addr) (H':Hp),Same H H'->(m'=m\/H m'=none)->H' m'=some (.lst (IL (pmf M (Zz7 ps ns))))->Q (.ref m') H'
theorem scZf:FnScope ["web","marks","ties","tie","ends","low","high"] ["web","marks","ties"] (Zz4 sZf):=⟨rfl,rfl,rfl,by decide +kernel,rfl,by decide +kernel,by decide +kernel⟩
theorem okZf (T:Txt K mg t):FnOk P w K mg base CX0 1 t.aZf t.dZf ["web","marks","ties"] (spZf K t.A_Web):=by
 refine T.fZf.ok scZf (λvs H Q E h=>?_) (λcdv A outer s H vs Q E hr h=>?_)
 .obtain⟨w,m,a,n,ps,M,kd,ns,rfl,_⟩:=h;rfl
 .obtain⟨w,m0,a,n,ps,M0,kd,ns,rfl,⟨dx,tl,xs,h1,h2,h3⟩,⟨g1,g2,g3,g4⟩,hm,hlM,hS,hI,q⟩:=h;refine⟨_,(Zz2 (ZX YX rfl (ZZ1 K (pv 2)) (Zc (i:=3) scZf.nd rfl (Or.inl rfl))
   (Zz2 (Ze (i:=4) scZf.nd rfl (Or.inl rfl) (ZL (Zj K) (ZO K (pv 0) rfl) (pv 3) (λ_ _=>rfl)))
   (Zz2 (Ze (i:=5) scZf.nd rfl (Or.inr rfl) (Zd (ZI7 rfl) (by rfl) T.n_min Boot.«min» (Zz0 (ZL (Zj K) (pv 1) (ZL (ZD K) (pv 4) Zz8 (λ_ _=>rfl)) (λ_ _=>rfl)) (Zz0 (ZL (Zj K) (pv 1) (ZL (ZD K) (pv 4) Zz8 (λ_ _=>rfl)) (λ_ _=>rfl)) Zz3))))
   (Zz2 (Ze (i:=6) scZf.nd rfl (Or.inr rfl) (Zd (ZJ7 rfl) (by rfl) T.n_max Boot.«max» (Zz0 (ZL (Zj K) (pv 1) (ZL (ZD K) (pv 4) Zz8 (λ_ _=>rfl)) (λ_ _=>rfl)) (Zz0 (ZL (Zj K) (pv 1) (ZL (ZD K) (pv 4) Zz8 (λ_ _=>rfl)) (λ_ _=>rfl)) Zz3))))
   (Zz6 (Ze1 (Zi ZM5 (pv 5) (pv 6) (Zq _))
   (Zz6 (Zz29 (i:=1) rfl scZf.nd rfl rfl (sc0:=Zz4 sZf) (N0:=["web","marks","ties","tie","ends","low","high"]) (N':=["mark","high","low"]) (o:=1) (fr:=[6,5]) ⟨rfl,by decide +kernel,by decide +kernel,by decide +kernel,rfl,by decide +kernel⟩ (ZY K (pv 1)) (ZK (by decide)) (λ_ _ _ _=>(Zc (i:=0) (show List.Nodup (["mark","high","low"]:List Str) by decide +kernel) rfl (Or.inl rfl))) (λ_ _ _ _=>ZS) (λ_ _ _ _=>(Zv3 (Zi Zz33 (pv 0) (pv 1) (Zq _)) (pv 2) (pv 0)))))
   Zm))))))
   (Zz6 (Zk (pv 1)))),?_⟩
  refine⟨_,rfl,a,rfl,Zp4 (k:=kd) (K:=K) (a:=a) (xs:=IL ns) (λi σ H2=>∃(m:Addr) (v3 v4 v5 v6:Option V),σ=[some (.ref w),some (.ref m),some (.ref a),v3,v4,v5,v6]/\Same H H2/\(m=m0\/H m=none)/\H2 m=some (.lst (IL (pmf M0 (Zz7 ps (ns.take i))))))
   ⟨m0,none,none,none,none,rfl,Same.refl _,.inl rfl,hm⟩ (λi σ H2 _ ⟨_,_,_,_,_,_,s2,_⟩=>hS.same s2) ?_ ?_⟩
  .rintro i x σ H2 hi ⟨m,v3,v4,v5,v6,rfl,s2,hm0,hm2⟩;obtain⟨z,rfl,hz⟩:=Zb1 hi;obtain⟨z0,z1⟩:=hI z (Yy8 hz);obtain⟨p,hp⟩:∃ p,ps[z.toNat]?=some p:=⟨_,Yy2 (by lia)⟩;obtain⟨v,hv,tt,rfl,htt⟩:=h3.2 z.toNat p hp;obtain⟨e1,e2,e3,e4⟩:=g4 p (Yy8 hp);have ed:ps.getD z.toNat (0,0)=p:=getD_of hp
   refine⟨_,rfl,w,_,dx,_,_,rfl,s2 _ _ h1,T.cl_Web,T.n_Web_ties,Zr1 _ _,_,rfl,tl,xs,z,.ref tt,rfl,rfl,SqL.of (s2 _ _ h2),ZN (n:=z.toNat) (by lia) hv,?_⟩;have ht2:=s2 _ _ htt
   have hl:(pmf M0 (Zz7 ps (ns.take i))).length=n.toNat:=(ZH5 _ _).trans hlM;generalize hM:pmf M0 (Zz7 ps (ns.take i))=M at *;have ha:M[p.1.toNat]?=some (mk M p.1.toNat):=ZJ1 (by grind)
   have hb:M[p.2.toNat]?=some (mk M p.2.toNat):=ZJ1 (by grind);have iA:atI (IL M) p.1=some (.int (mk M p.1.toNat)):=ZN (n:=p.1.toNat) (by lia) (by rw[Yp,ha];rfl)
   have iB:atI (IL M) p.2=some (.int (mk M p.2.toNat)):=ZN (n:=p.2.toNat) (by lia) (by rw[Yp,hb];rfl);have t0:atI ([.int p.1,.int p.2]:List V) 0=some (.int p.1):=rfl
   have t1:atI ([.int p.1,.int p.2]:List V) 1=some (.int p.2):=rfl;refine⟨_,rfl,_,rfl,tt,_,0,_,rfl,rfl,SqT.of ht2,t0,m,_,p.1,_,rfl,rfl,SqL.of hm2,iA,_,rfl,_,rfl,tt,_,1,_,rfl,rfl,SqT.of ht2,t1,m,_,p.2,_,rfl,rfl,SqL.of hm2,iB,_,_,rfl,?_⟩;refine⟨_,rfl,_,rfl,tt,_,0,_,rfl,rfl,SqT.of ht2,t0,m,_,p.1,_,rfl,rfl,SqL.of hm2,iA,_,rfl,_,rfl,tt,_,1,_,rfl,rfl,SqT.of ht2,t1,m,_,p.2,_,rfl,rfl,SqL.of hm2,iB,_,_,rfl,?_⟩;have eL:(if mk M p.2.toNat<mk M p.1.toNat then mk M p.2.toNat else mk M p.1.toNat)=min (mk M p.1.toNat) (mk M p.2.toNat):=by rw[Int.min_def];split <;> split <;> lia
   have eH:(if mk M p.2.toNat > mk M p.1.toNat then mk M p.2.toNat else mk M p.1.toNat)=max (mk M p.1.toNat) (mk M p.2.toNat):=by rw[Int.max_def];split <;> split <;> lia
   refine⟨_,rfl,_,rfl,_,_,rfl,rfl,_,rfl,?_⟩;rw[eL,eH];have step:pmf M0 (Zz7 ps (ns.take (i+1)))=pm M p.1.toNat p.2.toNat:=by rw[Zz25 hz,Zz59,hM,ed]
   refine itd2 (λhc=>?_) (λhc=>?_)
   .refine⟨_,rfl,m,rfl,⟨_,SqL.of hm2⟩,Zz83 (K:=K) (a:=m) (xs:=IL M) (λj ys H3=>H3=H2/\j<=M.length/\ys=IL ((M.take j).map λk=>if k=max (mk M p.1.toNat) (mk M p.2.toNat) then min (mk M p.1.toNat) (mk M p.2.toNat) else k)) ⟨rfl,Yl _,rfl⟩ (Zr (by rw[Zz5];grind))
     (λj ys H3 hj ⟨e,hjl,ey⟩=>⟨e ▸ SqL.of hm2,by rw[ey,Zz5,Yc,YI];lia⟩) ?_ ?_⟩
    .rintro j y ys H3 hj ⟨rfl,hjl,rfl⟩ S hSS;obtain⟨k,rfl,hk⟩:=Zb1 hj;refine nmY ?_;refine⟨_,rfl,_,rfl,rfl,_,rfl,?_⟩;have hjl':j<M.length:=(Yy3.mp hk).1
     have app:∀ r:Int,r=(if k=max (mk M p.1.toNat) (mk M p.2.toNat) then min (mk M p.1.toNat) (mk M p.2.toNat) else k) ->
       IL ((M.take j).map λk=>if k=max (mk M p.1.toNat) (mk M p.2.toNat) then min (mk M p.1.toNat) (mk M p.2.toNat) else k)++[.int r]=IL ((M.take (j+1)).map λk=>if k=max (mk M p.1.toNat) (mk M p.2.toNat) then min (mk M p.1.toNat) (mk M p.2.toNat) else k):=by intro r er;rw[YS,hk,er];simp
     refine itd2 (λhe=>?_) (λhe=>?_)
     .refine⟨_,rfl,hSS _ _ ⟨rfl,hjl',app _ ?_⟩⟩;rw[if_pos (V.int.inj he)]
     .refine⟨_,rfl,hSS _ _ ⟨rfl,hjl',app _ ?_⟩⟩;rw[if_neg λz=>he (YZ V.int z)]
    .rintro ys H3 ⟨rfl,_,rfl⟩ p' hp';refine⟨p',_,_,_,_,rfl,ZW s2 hp',.inr (s2.free hp'),?_⟩;rw[Zz1,step,Zz5,QP];unfold pm;rw[if_pos hc]
   .refine⟨m,_,_,_,_,rfl,s2,hm0,?_⟩;rw[hm2,step];unfold pm;rw[if_neg hc]
  .rintro σ H2 ⟨m,v3,v4,v5,v6,rfl,s2,hm0,hm2⟩;rw[Zz5,QP]at hm2;exact⟨_,rfl,q m H2 s2 hm0 hm2⟩
def spZg(K:Ad)(C:Addr):Sp:=λvs H Q _=>∃(w a:Addr) (n:Int) (ps:Aa) (ns:Ac),vs=[.ref w,.ref a]/\WebAt C H w n ps/\Zy n ps/\SqT K H a (IL ns)/\(∀ z∈ns,0<=z/\z<(ps.length:Int)) /\
 ∀(m:Addr) (H':Hp),Same H H'->H m=none->H' m=some (.lst (IL (pms n.toNat (Zz7 ps ns))))->Q (.ref m) H'
theorem scZg:FnScope ["web","ties"] ["web","ties"] (Zz4 sZg):=⟨rfl,rfl,rfl,by decide +kernel,rfl,by decide +kernel,by decide +kernel⟩
theorem okZg (T:Txt K mg t):FnOk P w K mg base CX0 2 t.aZg t.dZg ["web","ties"] (spZg K t.A_Web):=by
 refine T.fZg.ok scZg (λvs H Q E h=>?_) (λcdv A outer s H vs Q E hr h=>?_)
 .obtain⟨w,a,n,ps,ns,rfl,_⟩:=h;rfl
 .obtain⟨w,a,n,ps,ns,rfl,hW,hG,hS,hI,q⟩:=h;refine⟨_,(Zz6 (Zk (Za (okZf T) (hr.mono (by decide)) rfl T.mZf T.fZf.kp T.bZf .nil ZJ (Zz0 (pv 0) (Zz0 (Zn (Zh3 rfl) (by rfl) T.n_list Boot.«list» (Zz0 (Zn ZM2 (by rfl) T.n_range Boot.«range» (Zz0 (ZO K (pv 0) rfl) Zz3)) Zz3)) (Zz0 (pv 1) Zz3)))))),?_⟩;obtain⟨dx,tl,xs,h1,h2,h3⟩:=id hW;obtain⟨g1,g2,g3,g4⟩:=id hG;refine⟨_,rfl,_,rfl,w,_,dx,_,_,rfl,h1,T.cl_Web,T.n_Web_places,Zz91 _ _,n,rfl,λr hr0=>⟨r,0,n,rfl,Zz1,⟨by decide,by decide,by lia,by omega⟩,by lia,λm hm=>?_⟩⟩;have sm:Same H (upd (upd H r (.rng 0 n)) m (.lst ((rngI 0 n).map V.int))):=ZW (same_at hr0) hm
  refine⟨_,rfl,w,m,a,n,ps,(List.range n.toNat).map (λ(i:Nat)=>(i:Int)),true,ns,rfl,hW.same sm,hG,?_,by simp,Zo5 sm hS,hI,λm' H' s' hf hm'=>?_⟩
  .rw[Zz1,Zz14]
  .refine q m' H' (sm.trans s') ?_ hm';rcases hf with rfl | hf
   .exact(same_at hr0).free hm
   .exact sm.free hf
def spZh(K:Ad)(C:Addr):Sp:=λvs H Q _=>∃(w a:Addr) (n:Int) (ps:Aa) (kd:Bool) (ns:Ac),vs=[.ref w,.ref a]/\WebAt C H w n ps/\Zy n ps/\SqK kd K H a (IL ns)/\IsSet ps.length ns /\
 ∀(r:Addr) (as:List Addr) (H':Hp),Same H H'->H r=none->H' r=some (.lst (as.map V.ref))->r∉as->GrpAt H H' (grp (pms n.toNat (Zz7 ps ns))) as->Q (.ref r) H'
theorem scZh:FnScope ["web","ties","pieces","place","mark"] ["web","ties"] (Zz4 sZh):=⟨rfl,rfl,rfl,by decide +kernel,rfl,by decide +kernel,by decide +kernel⟩
theorem okZh (T:Txt K mg t):FnOk P w K mg base CX0 4 t.aZh t.dZh ["web","ties"] (spZh K t.A_Web):=by
 refine T.fZh.ok scZh (λvs H Q E h=>?_) (λcdv A outer s H vs Q E hr h=>?_)
 .obtain⟨w,a,n,ps,kd,ns,rfl,_⟩:=h;rfl
 .obtain⟨w,a,n,ps,kd,ns,rfl,hW,hG,hS,hI,q⟩:=h;refine⟨_,(Zz2 (Ze (i:=2) scZh.nd rfl (Or.inl rfl) Zz99)
   (Zz2 (ZX YX rfl (Zz02 K rfl T.n_enumerate (Zz0 (Za (okZg T) (hr.mono (by decide)) rfl T.mZg T.fZg.kp T.bZg .nil ZJ (Zz0 (pv 0) (Zz0 (Za (okZe T) (hr.mono (by decide)) rfl T.mZe T.fZe.kp T.bZe .nil Za13 (Zz0 (pv 0) (Zz0 (pv 1) Zz3))) Zz3))) Zz3)) (Zz51 (n:=2) K rfl (Zl (Zc (i:=3) scZh.nd rfl (Or.inl rfl)) (Zl (Zc (i:=4) scZh.nd rfl (Or.inl rfl)) Zz41)))
   (Zz6 (ZC (Zq1 K YL Y0b Y0a ZV (Zq1 K Y3l Y2R PySem.F.type_dict_setdefault Zz53 (pv 2) (Zz0 (pv 4) (Zz0 (Zz Zz3) Zz3))) (Zz0 (pv 3) Zz3)))))
   (Zz6 (Zk (Zn (ZN2 rfl) (by rfl) T.n_list Boot.«list» (Zz0 (ZR10 K Y3l Y3g PySem.F.type_dict_values Zg7 (pv 2)) Zz3)))))),?_⟩
  intro d hd;have s0:Same H (upd H d (.dK [])):=same_at hd
  refine⟨_,rfl,_,rfl,_,rfl,w,a,n,ps,kd,ns,rfl,hW.same s0,hS.same s0,λ_ r H1 s1 hr1=>?_,λh=>absurd hI h⟩;refine⟨w,r,n,ps,ns,rfl,(hW.same s0).same s1,hG,hr1,hI.all,λm H2 s2 hm1 hm2=>?_⟩;have s02:Same H H2:=(s0.trans s1).trans s2
  have hd2:H2 d=some (.dK []):=s2 _ _ (s1 _ _ Zz1);have hl:(pms n.toNat (Zz7 ps ns)).length=n.toNat:=Zo _ _
  generalize hM:pms n.toNat (Zz7 ps ns)=M at *;have hm0:H m=none:=(s0.trans s1).free hm1
  have n14:M.length<=14:=by have:=hG.2.1;grind
  refine⟨m,rfl,⟨_,SqL.of hm2⟩,?_⟩;refine ZG3 (K:=K) (a:=m) (xs:=IL M) (λi σ H3=>∃(as:List Addr) (v3 v4:Option V),σ=[some (.ref w),some (.ref a),some (.ref d),v3,v4]/\i<=M.length/\Same H H3/\H3 m=some (.lst (IL M))/\H3 d=some (.dK (gkv (grpA M i) as))/\d∉as/\m∉as/\GrpAt H H3 (grpA M i) as/\as.length<=i)
   ⟨[],none,none,rfl,Yl _,s02,hm2,hd2,by simp,by simp,⟨rfl,List.nodup_nil,λi kv a e=>by simp[grpA]at e,λa ha=>by simp at ha⟩,Yy6 _⟩ (λi σ H3 _ ⟨_,_,_,_,_,_,h,_⟩=>SqL.of h) ?_ ?_
  .rintro i x σ H3 pt hpt hi ⟨as,v3,v4,rfl,hil,s3,hm3,hd3,nda,nma,gA,hal⟩;obtain⟨k,rfl,hk⟩:=Zb1 hi;have hk':mk M i=k:=getD_of hk
   have hil':i<M.length:=(Yy3.mp hk).1;have s4:Same H3 (upd H3 pt (.tup [.int i,.int k])):=same_at hpt
   refine⟨pt,_,rfl,SqT.of Zz1,rfl,_,_,rfl,_,_,rfl,rfl,?_⟩;refine⟨_,rfl,.inr (.inr (.inl ⟨rfl,.inl ⟨_,s4 _ _ hd3⟩⟩)),_,rfl,(by show 0<=sizeLine;exact Yl _),λl hl0=>?_⟩;have s5:Same H3 (upd (upd H3 pt (.tup [.int i,.int k])) l (.lst [])):=ZW s4 hl0
   have hd5:=s5 _ _ hd3;have hl3:H3 l=none:=s4.free hl0
   have ndl:d≠l:=Zb hd3 hl3;have gl:=gA.len
   refine⟨d,gkv (grpA M i) as,Sum.inl k,.ref l,rfl,rfl,hd5,?_,λv hv=>?_,λhv=>?_⟩
   .rw[Zk6 gl];exact Zr (by grind)
   .-- the mark has its list
    rcases Zi6 (g:=grpA M i) (as:=as) (k:=k) gl with ⟨h1,_⟩ | ⟨j,kv,b,e1,e2,e3,e4⟩
    .rw[h1]at hv;cases hv
    .rw[e4]at hv;cases hv;have hb5:=s5 _ _ (gA.at_ j kv b e1 e2)
     have hkm:k∈(grpA M i).map (·.1):=Yx.mpr ⟨kv,Yy8 e1,e3⟩;have hlen:kv.2.length<=i:=ZF3 (Yy8 e1)
     refine⟨.inl ⟨rfl,_,SqL.of hb5⟩,_,rfl,b,_,.int i,rfl,rfl,hb5,?_,?_⟩
     .rw[Zz5];exact Zr (by grind)
     .have hbas:b∈as:=Yy8 e2;have hdb:d≠b:=λz=>nda (z ▸ hbas)
      have hmb:m≠b:=λz=>nma (z ▸ hbas);have hb0:=gA.new b hbas
      have ekeys:(grpA M (i+1)).map (·.1)=(grpA M i).map (·.1):=by show(ZE3 (grpA M i) (i:Int) (mk M i)).map (·.1)=_;rw[Zv1,hk',if_pos hkm]
      refine⟨as,_,_,rfl,hil',Zs hb0 (s3.trans s5),by rw[Zz9 hmb];exact s5 _ _ hm3,by rw[Zz9 hdb,hd5,Zl6 ekeys],nda,nma,⟨?_,gA.nd,?_,gA.new⟩,by lia⟩
      .have:=YZ List.length ekeys
       rw[Yc,Yc]at this;lia
      .intro i2 kv2 a2 f1 f2;have f1:(ZE3 (grpA M i) (i:Int) (mk M i))[i2]?=some kv2:=f1
       unfold ZE3 at f1;rw[hk',if_pos hkm,Yp]at f1;cases f3:(grpA M i)[i2]? with
       | none=>rw[f3]at f1;cases f1
       | some kv3 =>
        rw[f3]at f1;have f1:(if kv3.1=k then (kv3.1,kv3.2++[(i:Int)]) else kv3)=kv2:=Yd f1
        by_cases hj:i2=j
        .subst hj;rw[e1]at f3;cases f3;rw[e2]at f2;cases f2;rw[if_pos e3]at f1;subst f1;rw[Zz1];simp
        .have hab:a2≠b:=λz=>by subst z;exact hj (nodup_get gA.nd f2 e2)
         have hkk:¬ kv3.1=k:=λz=>hj (nodup_get (Zz92 M i) (by rw[Yp,f3];exact YZ some z) (by rw[Yp,e1];exact YZ some e3));rw[if_neg hkk]at f1;subst f1;rw[Zz9 hab];exact s5 _ _ (gA.at_ i2 kv3 a2 f3 f2)
   .-- a new list
    rcases Zi6 (g:=grpA M i) (as:=as) (k:=k) gl with ⟨h1,hkn⟩ | ⟨j,kv,b,e1,e2,e3,e4⟩
    .have hl6:(upd (upd (upd H3 pt (.tup [.int i,.int k])) l (.lst [])) d (.dK (gkv (grpA M i) as++[(Sum.inl k,.ref l)]))) l=some (.lst []):=by rw[Zz9 (YR ndl),Zz1]
     refine⟨.inl ⟨rfl,_,SqL.of hl6⟩,_,rfl,l,[],.int i,rfl,rfl,hl6,(by show 0<sizeLine;decide),?_⟩;have hl0':H l=none:=s3.free hl3
     have hlas:l∉as:=λz=>by obtain⟨_,e⟩:=gA.mem z;rw[hl3]at e;cases e
     have hml:m≠l:=Zb hm3 hl3;have hmd:m≠d:=Zb4 hm3 hd3 (λz=>nomatch z)
     have egr:grpA M (i+1)=grpA M i++[(k,[(i:Int)])]:=by show ZE3 (grpA M i) (i:Int) (mk M i)=_;unfold ZE3;rw[hk',if_neg hkn]
     have hdH:H d=none:=hd;refine⟨as++[l],_,_,rfl,hil',Zs hl0' (Zs hdH (s3.trans s5)),by rw[Zz9 hml,Zz9 hmd];exact s5 _ _ hm3,?_,?_,?_,⟨?_,?_,?_,?_⟩,?_⟩
     .rw[Zz9 ndl,Zz1,egr,Zj6 gl]
     .rw[Ya,Yy1];rintro(z | z)
      .exact nda z
      .exact ndl z
     .rw[Ya,Yy1];rintro(z | z)
      .exact nma z
      .exact hml z
     .rw[egr,Yy5,Yy5,gl];rfl
     .exact Zz68 gA.nd hlas
     .intro i2 kv2 a2 f1 f2;rw[egr]at f1;by_cases hi2:i2<(grpA M i).length
      .rw[Yu hi2]at f1;rw[Yu (by lia)]at f2;have e:=gA.at_ i2 kv2 a2 f1 f2
       have n1:a2≠l:=Zb e hl3;have n2:a2≠d:=Zb4 e hd3 (λz=>nomatch z)
       rw[Zz9 n1,Zz9 n2];exact s5 _ _ e
      .have h2:i2=(grpA M i).length:=by
        have:=(Yy3.mp f1).1
        rw[Yy5,YB]at this;grind
       subst h2;rw[Yv (Yy6 _),Y1a]at f1;rw[Yv (by lia),gl,Y1a]at f2;cases f1;cases f2;rw[Zz1];rfl
     .intro a2 ha2;rcases Ya.mp ha2 with z | z
      .exact gA.new a2 z
      .rw[Yy1.mp z];exact hl0'
     .rw[Yy5,YB];lia
    .rw[e4]at hv;cases hv
  .rintro σ H3 ⟨as,v3,v4,rfl,hil,s3,hm3,hd3,nda,nma,gA,hal⟩;rw[Zz5]at hd3 gA;refine⟨_,rfl,.inr (.inr (.inl ⟨rfl,.inl ⟨_,hd3⟩⟩)),d,_,rfl,rfl,hd3,λp hp=>?_⟩;have s6:Same H3 (upd H3 p (Zz910 p d)):=same_at hp
   refine⟨p,d,_,rfl,Zz1,s6 _ _ hd3,λr hr0=>?_⟩;have s7:Same H3 (upd (upd H3 p (Zz910 p d)) r (.lst ((gkv (grpA M M.length) as).map (·.2)))):=ZW s6 hr0
   refine q r as _ (s3.trans s7) ((s3.trans s6).free hr0) (by rw[Zz1,Zq8 gA.len]) (λz=>?_) (gA.same s7);obtain⟨_,e⟩:=gA.mem z;rw[s6.free hr0]at e;cases e
def spZi(K:Ad)(C:Addr):Sp:=λvs H Q _=>∃(w a:Addr) (n:Int) (ps:Aa) (kd:Bool) (ns:Ac),vs=[.ref w,.ref a]/\WebAt C H w n ps/\Zy n ps/\SqK kd K H a (IL ns)/\IsSet ps.length ns /\
 ∀(b:Bool) (H':Hp),Same H H'->(b=true↔(grp (pms n.toNat (Zz7 ps ns))).length=1)->Q (.bl b) H'
theorem scZi:FnScope ["web","ties"] ["web","ties"] (Zz4 sZi):=⟨rfl,rfl,rfl,by decide +kernel,rfl,by decide +kernel,by decide +kernel⟩
theorem okZi (T:Txt K mg t):FnOk P w K mg base CX0 5 t.aZi t.dZi ["web","ties"] (spZi K t.A_Web):=by
 refine T.fZi.ok scZi (λvs H Q E h=>?_) (λcdv A outer s H vs Q E hr h=>?_)
 .obtain⟨w,a,n,ps,kd,ns,rfl,_⟩:=h;rfl
 .obtain⟨w,a,n,ps,kd,ns,rfl,hW,hG,hS,hI,q⟩:=h;refine⟨_,(Zz6 (Zk (Zz64 Zz33 (Zd (Zh K) (by rfl) T.n_len Boot.«len» (Zz0 (Za (okZh T) (hr.mono (by decide)) rfl T.mZh T.fZh.kp T.bZh .nil ZJ (Zz0 (pv 0) (Zz0 (pv 1) Zz3))) Zz3)) Zz8 (Zq _)))),?_⟩;refine⟨_,rfl,_,rfl,w,a,n,ps,kd,ns,rfl,hW,hG,hS,hI,λr as H' s1 hr0 hr1 hnr gA=>?_⟩;refine⟨r,_,rfl,.inl (SqL.of hr1),rfl,?_⟩;rw[Yc,gA.len,Zw];refine q _ H' s1 ?_;rw[YH];lia
def spZj(K:Ad)(C B:Addr):Sp:=λvs H Q E=>∃(w:Addr) (n:Int) (ps:Aa),vs=[.ref w]/\WebAt C H w n ps/\Zy n ps /\
 (Zz810 n ps->∀ H':Hp,Same H H'->Q .non H')/\(¬ Zz810 n ps->∀ H':Hp,Same H H'->E (.ref B) none H')
theorem scZj:FnScope ["web"] ["web"] (Zz4 sZj):=⟨rfl,rfl,rfl,by decide +kernel,rfl,by decide +kernel,by decide +kernel⟩
theorem okZj (T:Txt K mg t):FnOk P w K mg base (CXW P w) 6 t.aZj t.dZj ["web"] (spZj K t.A_Web t.A_Parted):=by
 refine T.fZj.okX scZj (λvs H Q E h=>?_) (λcdv A outer s H vs Q E hr h=>?_)
 .obtain⟨w,n,ps,rfl,_⟩:=h;rfl
 .obtain⟨w,n,ps,rfl,hW,hG,q,qe⟩:=h;refine⟨_,(Zz6 (Ze1 (Zq3 (ZE5 (Za (okZi T) (hr.mono (by decide)) rfl T.mZi T.fZi.kp T.bZi .nil ZJ (Zz0 (pv 0) (Zz0 (Za (okZa T) (hr.mono (by decide)) rfl T.mZa T.fZa.kp T.bZa .nil ZJ (Zz0 (pv 0) Zz3)) Zz3)))))
   (Zz6 (ZV1 T.x_Parted T.c_Parted (Zz0 ZU Zz3)))
   Zm)),?_⟩
  refine⟨_,rfl,_,rfl,w,n,ps,rfl,hW,by have:=hG.2.2.1;lia,λr H1 s1 hr0 hr1=>?_⟩;refine⟨w,r,n,ps,true,rgL ps.length,rfl,hW.same s1,hG,SqT.of hr1,ZX7 _,λb H2 s2 hb=>⟨_,rfl,?_⟩⟩;rw[Zc6 (by have:=hG.1;lia) (ZT hG (ZX7 _).all)]at hb;refine itnb (λz=>?_) (λz=>?_)
  .exact q (hb.mp z) H2 (s1.trans s2)
  .exact⟨by show 1<=sizeLine;decide,qe (λg=>by rw[hb.mpr g]at z;cases z) H2 (s1.trans s2)⟩
def spZk(K:Ad)(C:Addr):Sp:=λvs H Q _=>∃(w b:Addr) (n:Int) (ps:Aa) (ws:Ac),vs=[.ref w,.ref b]/\WebAt C H w n ps/\Zy n ps/\SqL K H b (IL ws)/\ws.length=ps.length /\
 ∀(r:Addr) (ys:List V) (L:Ab) (H':Hp),Same H H'->H r=none->TabAt H r n.toNat H' ys L->(∀ i j,i<n.toNat->j<n.toNat->fnL L i j=lapE (ZK1 ps ws) i j)->Q (.ref r) H'
theorem ZA5(x:V)(k:Nat):(List.replicate k [x]).flatten=List.replicate k x:=by
 induction k with
 | zero=>rfl
 | succ k ih=>rw[Y0K,Y1A,ih,Y0K];rfl
theorem ZI9(n i j:Nat):fnL (List.replicate n (List.replicate n 0)) i j=0:=by
 unfold fnL;cases h:(List.replicate n (List.replicate n (0:Int)))[i]? with
 | none =>
  have e:(List.replicate n (List.replicate n (0:Int))).getD i []=[]:=by rw[Yy7,h];rfl
  rw[e];rfl
 | some l =>
  have e:(List.replicate n (List.replicate n (0:Int))).getD i []=l:=by rw[Yy7,h];rfl
  rw[e,Y1i (Yy8 h),Yy7,Y1n];split <;> rfl
theorem TabAt.get{H0 H:Hp}{r:Addr}{n:Nat}{ys:List V}{L:Ab}(h:TabAt H0 r n H ys L){i j:Nat}(hi:i<n)(hj:j<n):∃(A:Addr) (l:Ac) (x:Int),ys[i]?=some (.ref A)/\H A=some (.lst (IL l))/\l[j]?=some x/\l.length=n/\x=fnL L i j/\H0 A=none/\∀ y:Int,∃ L':Ab,TabAt H0 r n (upd H A (.lst ((IL l).set j (.int y)))) ys L'/\∀ a b,fnL L' a b=if a=i/\b=j then y else fnL L a b:=by
 obtain⟨A,l,y1,z1,hA,hl,hn,hr⟩:=h.at hi;obtain⟨x,hx⟩:∃ x,l[j]?=some x:=⟨_,Yy2 (by lia)⟩;refine⟨A,l,x,y1,hA,hx,hl,(Zj2 z1 hx).symm,hn,λy=>⟨L.set i (l.set j y),?_,Zy11 z1 (by lia)⟩⟩;have e:(IL l).set j (.int y)=IL (l.set j y):=(List.map_set ..).symm
 rw[e];exact h.put y1 z1 hr (by rwa[Y0y])
theorem Zo7{xs:List V}{i:Int}(h0:0<=i)(h1:i<(xs.length:Int)):ixN xs.length i=some i.toNat:=by unfold ixN;rw[if_pos h0,if_pos (by omega)]
theorem scZk:FnScope ["web","weights","table","ends","weight","one","other"] ["web","weights"] (Zz4 sZk):=⟨rfl,rfl,rfl,by decide +kernel,rfl,by decide +kernel,by decide +kernel⟩
theorem okZk (T:Txt K mg t):FnOk P w K mg base CX0 1 t.aZk t.dZk ["web","weights"] (spZk K t.A_Web):=by
 refine T.fZk.ok scZk (λvs H Q E h=>?_) (λcdv A outer s H vs Q E hr h=>?_)
 .obtain⟨w,b,n,ps,ws,rfl,_⟩:=h;rfl
 .obtain⟨w,b,n,ps,ws,rfl,hW,hG,hS,hwl,q⟩:=h;refine⟨_,(Zz2 (Zz29 (i:=2) rfl scZk.nd rfl rfl (sc0:=Zz4 sZk) (N0:=["web","weights","table","ends","weight","one","other"]) (N':=["place","web"]) (o:=1) (fr:=[0]) ⟨rfl,by decide +kernel,by decide +kernel,by decide +kernel,rfl,by decide +kernel⟩ (Zj1 rfl T.n_range (Zz0 (ZO K (pv 0) rfl) Zz3)) (ZK (by decide)) (λ_ _ _ _=>(Zc (i:=0) (show List.Nodup (["place","web"]:List Str) by decide +kernel) rfl (Or.inl rfl))) (λ_ _ _ _=>ZS) (λ_ _ _ _=>(Zp Zd9 (Zz (Zz0 Zz8 Zz3)) (ZO K (pv 1) rfl))))
   (Zz2 (ZX YX rfl (Zz89 K rfl T.n_zip (Zz0 (ZO K (pv 0) rfl) (Zz0 (pv 1) Zz3))) (Zz51 (n:=2) K rfl (Zl (Zc (i:=3) scZk.nd rfl (Or.inl rfl)) (Zl (Zc (i:=4) scZk.nd rfl (Or.inl rfl)) Zz41)))
   (Zz2 (Ze (i:=5) scZk.nd rfl (Or.inl rfl) (ZL (ZD K) (pv 3) Zz8 (λ_ _=>rfl)))
   (Zz2 (Ze (i:=6) scZk.nd rfl (Or.inl rfl) (ZL (ZD K) (pv 3) Zz8 (λ_ _=>rfl)))
   (Zz6 (Ze1 (Zi Ze9 (pv 5) (pv 6) (Zq _))
   (Zz2 (Zz34 (ZL (Zj K) (pv 2) (pv 5) (λ_ _=>rfl)) (pv 5) (ZO1 K) (pv 4) Zn11 Zy1)
   (Zz2 (Zz34 (ZL (Zj K) (pv 2) (pv 6) (λ_ _=>rfl)) (pv 6) (ZO1 K) (pv 4) Zn11 Zy1)
   (Zz2 (Zz34 (ZL (Zj K) (pv 2) (pv 5) (λ_ _=>rfl)) (pv 6) (ZO1 K) (pv 4) Yz9 Zy1)
   (Zz6 (Zz34 (ZL (Zj K) (pv 2) (pv 6) (λ_ _=>rfl)) (pv 5) (ZO1 K) (pv 4) Yz9 Zy1)))))
   Zm)))))
   (Zz6 (Zk (pv 2))))),?_⟩
  obtain⟨dx,tl,xs,h1,h2,h3⟩:=id hW;have hl:=h3.1
  obtain⟨g1,g2,g3,g4⟩:=id hG;have one:1<=sizeLine:=by decide
  refine⟨_,rfl,w,_,dx,_,_,rfl,h1,T.cl_Web,T.n_Web_places,Zz91 _ _,n,rfl,by lia,by lia,ZB2 (lo:=0) (n:=n.toNat) (λi zs H2=>Same H H2/\Bears (ZZ6 H2) zs (List.replicate i (List.replicate n.toNat 0))/\zs.Nodup/\∀ A,V.ref A∈zs->H A=none/\∃ o,H2 A=some o) ⟨Same.refl _,⟨rfl,λi l e=>by simp at e⟩,.nil,λA h=>(by cases h)⟩ (Zr (by lia)) (λi zs H2 _ ⟨_,e,_⟩=>by rw[e.1,YF];exact Yy6 _) ?_ ?_⟩
  .rintro i zs H2 hi ⟨s2,hZ,hnd,hnew⟩ S hSS;refine nm ?_;refine⟨one,λp1 hp1=>?_⟩;have u1:=same_at (o:=.lst [.int 0]) hp1
   refine⟨_,rfl,w,_,dx,_,_,rfl,u1 _ _ (s2 _ _ h1),T.cl_Web,T.n_Web_places,Zz91 _ _,p1,n,_,rfl,rfl,Zz1,by lia,by lia,Zk2 (by show 1 * n.toNat<=_;lia),λp2 hp2=>?_⟩;have e0:(List.replicate n.toNat [V.int 0]).flatten=IL (List.replicate n.toNat 0):=by rw[ZA5];show _=(List.replicate n.toNat 0).map V.int;rw[List.map_replicate]
   rw[e0];have u2:=u1.trans (same_at (o:=.lst (IL (List.replicate n.toNat 0))) hp2)
   have hp20:H2 p2=none:=(same_at hp1).free hp2;refine hSS _ _ ⟨s2.trans u2,?_,?_,λA hA=>?_⟩
   .rw[List.replicate_succ'];exact(hZ.imp λ_ _ ⟨r',e,h⟩=>⟨r',e,u2 _ _ h⟩).snoc ⟨p2,rfl,Zz1⟩
   .refine Y0d.mpr ⟨hnd,by simp,λx hx y hy e=>?_⟩;rw[Yy1.mp hy]at e;obtain⟨_,o,ho⟩:=hnew p2 (e ▸ hx);rw[hp20]at ho;cases ho
   .rcases Ya.mp hA with e | e
    .obtain⟨a1,o,a2⟩:=hnew A e;exact⟨a1,o,u2 _ _ a2⟩
    .have e':A=p2:=by simpa using e
     rw[e'];exact⟨s2.free hp20,_,Zz1⟩
  rintro zs H2 ⟨s2,hZ,hnd,hnew⟩ tA htA;have s3:=s2.trans (same_at (o:=.lst zs) htA)
  have htA0:H tA=none:=s2.free htA;have hT:TabAt H tA n.toNat (upd H2 tA (.lst zs)) zs (List.replicate n.toNat (List.replicate n.toNat 0)):=⟨Zz1,hZ.imp λ_ _ ⟨r',e,h⟩=>⟨r',e,same_at htA _ _ h,Zb h htA⟩,YF,λl h=>by rw[Y1i h];exact YF,hnd,λA h=>(hnew A h).1⟩
  have hzero:∀ i j,fnL (List.replicate n.toNat (List.replicate n.toNat 0)) i j=0:=λi j=>by
   have:=ZI9 n.toNat i j
   exact this
  generalize upd H2 tA (.lst zs)=H3 at *;generalize List.replicate n.toNat (List.replicate n.toNat (0:Int))=L0 at *;refine⟨_,rfl,w,_,dx,_,_,rfl,s3 _ _ h1,T.cl_Web,T.n_Web_ties,Zr1 _ _,_,rfl,tl,b,rfl,⟨_,_,SqL.of (s3 _ _ h2),s3.seq hS⟩,Zx11 (K:=K) (a:=tl) (b:=b) (xs:=xs) (ys:=IL ws) (by rw[Zz5];lia) (λi σ H4=>∃(L:Ab) (v3 v4 v5 v6:Option V),σ=[some (.ref w),some (.ref b),some (.ref tA),v3,v4,v5,v6]/\Same H H4/\TabAt H tA n.toNat H4 zs L/\∀ x y,x<n.toNat->y<n.toNat->fnL L x y=lapE (ZK1 (ps.take i) (ws.take i)) x y) ⟨L0,none,none,none,none,rfl,s3,hT,λx y _ _=>hzero x y⟩ (λi σ H4 _ ⟨_,_,_,_,_,_,e,_⟩=>⟨SqL.of (e _ _ h2),e.seq hS⟩) ?_ ?_⟩
  .rintro i v v' σ H4 pt hpt hi hi' ⟨L,v3,v4,v5,v6,rfl,s4,hT4,hlap⟩;obtain⟨p,hp,tt,rfl,htt⟩:=h3.at hi;obtain⟨wt,rfl,hwt⟩:=Zb1 hi';obtain⟨e1,e2,e3,e4⟩:=g4 p (Yy8 hp);have u1:=same_at (o:=.tup [.ref tt,.int wt]) hpt
   refine⟨pt,_,rfl,SqT.of Zz1,rfl,_,_,rfl,_,_,rfl,rfl,?_⟩;have hT5:=hT4.same u1
   have s5:=s4.trans u1;generalize upd H4 pt (.tup [.ref tt,.int wt])=H5 at *;refine⟨_,rfl,tt,_,0,.int p.1,rfl,rfl,SqT.of (s5 _ _ htt),rfl,?_⟩;refine⟨_,rfl,tt,_,1,.int p.2,rfl,rfl,SqT.of (s5 _ _ htt),rfl,?_⟩;refine⟨_,rfl,_,rfl,rfl,_,rfl,?_⟩;rw[Zw];have esn:=ZN9 hp hwt
   refine itn2 (λheq=>?_) (λhne=>?_)
   .refine⟨L,_,_,_,_,rfl,s5,hT5,λx y hx hy=>?_⟩;rw[esn,Zf4 (by show p.1.toNat=p.2.toNat;rw[heq])];exact hlap x y hx hy
   have hne':p.1.toNat≠p.2.toNat:=λe=>hne (by grind);obtain⟨A1,l1,x1,y1,hA1,hx1,hl1,ex1,hn1,put1⟩:=hT5.get (i:=p.1.toNat) (j:=p.1.toNat) (by grind) (by lia);refine⟨_,rfl,_,rfl,tA,zs,p.1,.ref A1,rfl,rfl,SqL.of hT5.tab,ZN (n:=p.1.toNat) (by lia) y1,_,rfl,A1,_,p.1,.int x1,rfl,rfl,SqL.of hA1,by lia,ZW4 hx1,_,rfl,_,_,rfl,rfl,A1,_,p.1,p.1.toNat,rfl,rfl,hA1,Zo7 (by lia) (by rw[Zz5];grind),?_⟩;obtain⟨L1,hT6,hf1⟩:=put1 (x1+wt);have s6:Same H (upd H5 A1 (.lst ((IL l1).set p.1.toNat (.int (x1+wt))))):=Zs hn1 s5
   generalize upd H5 A1 (.lst ((IL l1).set p.1.toNat (.int (x1+wt))))=H6 at *;rw[ex1]at hf1;obtain⟨A2,l2,x2,y2,hA2,hx2,hl2,ex2,hn2,put2⟩:=hT6.get (i:=p.2.toNat) (j:=p.2.toNat) (by grind) (by lia);refine⟨_,rfl,_,rfl,tA,zs,p.2,.ref A2,rfl,rfl,SqL.of hT6.tab,ZN (n:=p.2.toNat) (by lia) y2,_,rfl,A2,_,p.2,.int x2,rfl,rfl,SqL.of hA2,by lia,ZW4 hx2,_,rfl,_,_,rfl,rfl,A2,_,p.2,p.2.toNat,rfl,rfl,hA2,Zo7 (by lia) (by rw[Zz5];grind),?_⟩;obtain⟨L2,hT7,hf2⟩:=put2 (x2+wt);have s7:Same H (upd H6 A2 (.lst ((IL l2).set p.2.toNat (.int (x2+wt))))):=Zs hn2 s6
   generalize upd H6 A2 (.lst ((IL l2).set p.2.toNat (.int (x2+wt))))=H7 at *;rw[ex2]at hf2;obtain⟨A3,l3,x3,y3,hA3,hx3,hl3,ex3,hn3,put3⟩:=hT7.get (i:=p.1.toNat) (j:=p.2.toNat) (by grind) (by grind);refine⟨_,rfl,_,rfl,tA,zs,p.1,.ref A3,rfl,rfl,SqL.of hT7.tab,ZN (n:=p.1.toNat) (by lia) y3,_,rfl,A3,_,p.2,.int x3,rfl,rfl,SqL.of hA3,by lia,ZW4 hx3,_,rfl,_,_,rfl,rfl,A3,_,p.2,p.2.toNat,rfl,rfl,hA3,Zo7 (by lia) (by rw[Zz5];grind),?_⟩;obtain⟨L3,hT8,hf3⟩:=put3 (x3 - wt);have s8:Same H (upd H7 A3 (.lst ((IL l3).set p.2.toNat (.int (x3 - wt))))):=Zs hn3 s7
   generalize upd H7 A3 (.lst ((IL l3).set p.2.toNat (.int (x3 - wt))))=H8 at *;rw[ex3]at hf3;obtain⟨A4,l4,x4,y4,hA4,hx4,hl4,ex4,hn4,put4⟩:=hT8.get (i:=p.2.toNat) (j:=p.1.toNat) (by grind) (by grind);refine⟨_,rfl,_,rfl,tA,zs,p.2,.ref A4,rfl,rfl,SqL.of hT8.tab,ZN (n:=p.2.toNat) (by lia) y4,_,rfl,A4,_,p.1,.int x4,rfl,rfl,SqL.of hA4,by lia,ZW4 hx4,_,rfl,_,_,rfl,rfl,A4,_,p.1,p.1.toNat,rfl,rfl,hA4,Zo7 (by lia) (by rw[Zz5];grind),?_⟩;obtain⟨L4,hT9,hf4⟩:=put4 (x4 - wt);have s9:Same H (upd H8 A4 (.lst ((IL l4).set p.1.toNat (.int (x4 - wt))))):=Zs hn4 s8
   generalize upd H8 A4 (.lst ((IL l4).set p.1.toNat (.int (x4 - wt))))=H9 at *;rw[ex4]at hf4;refine⟨L4,_,_,_,_,rfl,s9,hT9,λx y hx hy=>?_⟩;rw[esn,ZC2,<- hlap x y hx hy];exact four hne' x y hf1 hf2 hf3 hf4
  .rintro σ H4 ⟨L,v3,v4,v5,v6,rfl,s4,hT4,hlap⟩;rw[hl,QP,<- hwl,QP]at hlap;exact⟨_,rfl,q tA zs L H4 s4 htA0 hT4 hlap⟩
def spZl(K:Ad)(C:Addr):Sp:=λvs H Q _=>∃(w:Addr) (n:Int) (ps:Aa),vs=[.ref w]/\WebAt C H w n ps/\Zy n ps /\
 ∀(r:Addr) (ys:List V) (L:Ab) (H':Hp),Same H H'->H r=none->TabAt H r n.toNat H' ys L->(∀ i j,i<n.toNat->j<n.toNat->fnL L i j=lapE (ZK1 ps (List.replicate ps.length 1)) i j)->Q (.ref r) H'
theorem scZl:FnScope ["web"] ["web"] (Zz4 sZl):=⟨rfl,rfl,rfl,by decide +kernel,rfl,by decide +kernel,by decide +kernel⟩
theorem okZl (T:Txt K mg t):FnOk P w K mg base CX0 2 t.aZl t.dZl ["web"] (spZl K t.A_Web):=by
 refine T.fZl.ok scZl (λvs H Q E h=>?_) (λcdv A outer s H vs Q E hr h=>?_)
 .obtain⟨w,n,ps,rfl,_⟩:=h;rfl
 .obtain⟨w,n,ps,rfl,hW,hG,q⟩:=h;refine⟨_,(Zz6 (Zk (Za (okZk T) (hr.mono (by decide)) rfl T.mZk T.fZk.kp T.bZk .nil ZJ (Zz0 (pv 0) (Zz0 (Zp Zd9 (Zz (Zz0 Zz8 Zz3)) (Zd (Zh K) (by rfl) T.n_len Boot.«len» (Zz0 (ZO K (pv 0) rfl) Zz3))) Zz3))))),?_⟩;obtain⟨dx,tl,xs,h1,h2,h3⟩:=id hW;have hl:=h3.1
  have g3:=hG.2.2.1;refine⟨_,rfl,(by show 1<=sizeLine;decide),λp1 hp1=>?_⟩;have u1:=same_at (o:=.lst [.int 1]) hp1
  refine⟨_,rfl,w,_,dx,_,_,rfl,u1 _ _ h1,T.cl_Web,T.n_Web_ties,Zr1 _ _,tl,xs,rfl,.inl (SqL.of (u1 _ _ h2)),p1,(xs.length:Int),_,rfl,rfl,Zz1,by lia,by lia,Zk2 (by show 1 * _<=_;lia),λp2 hp2=>?_⟩;have e0:(List.replicate (xs.length:Int).toNat [V.int 1]).flatten=IL (List.replicate ps.length 1):=by
   rw[Yw,hl,ZA5];show _=(List.replicate ps.length 1).map V.int
   rw[List.map_replicate]
  rw[e0];have u2:=u1.trans (same_at (o:=.lst (IL (List.replicate ps.length 1))) hp2)
  refine⟨w,p2,n,ps,List.replicate ps.length 1,rfl,hW.same u2,hG,SqL.of Zz1,YF,λr ys L H' s hr hT hf=>?_⟩;exact q r ys L H' (u2.trans s) (u2.free hr) ⟨hT.tab,hT.rows,hT.len,hT.all,hT.nd,λA h=>u2.free (hT.new A h)⟩ hf
def spZm(K:Ad)(C:Addr):Sp:=λvs H Q _=>∃(w:Addr) (n:Int) (ps:Aa),vs=[.ref w]/\WebAt C H w n ps/\Zy n ps/\∀(c:Nat) (H':Hp),TC n ps c->Same H H'->Q (.int c) H'
theorem Zh8(u v i:Nat):(ind u v i).natAbs<=1:=by unfold ind;split <;> split <;> decide
theorem Zc8:∀ {E:List Ed},(∀ e∈E,e.2.2=1)->∀ i j,(lapE E i j).natAbs<=E.length
 | [],_,i,j=>Yy6 0
 | e :: E,h,i,j=>by
  have ih:=Zc8 (λf hf=>h f (Yi _ hf)) i j;have h1:=Zh8 e.1 e.2.1 i
  have h2:=Zh8 e.1 e.2.1 j;have h3:(ind e.1 e.2.1 i * ind e.1 e.2.1 j).natAbs<=1:=by rw[Y3j];exact Y1E h1 h2
  show(e.2.2 * (ind e.1 e.2.1 i * ind e.1 e.2.1 j)+lapE E i j).natAbs<=(e :: E).length;rw[h e Yk,Y0A,Yz]
  have:=Int.natAbs_add_le (ind e.1 e.2.1 i * ind e.1 e.2.1 j) (lapE E i j)
  lia
theorem ZF6{α:Type}{l:List α}{i:Nat}(hi:l.length=i+1):cutz l (i:Int)=l.take i:=by unfold cutz;rw[Yw,Y0Y (by lia),YO]
theorem scZm:FnScope ["web"] ["web"] (Zz4 sZm):=⟨rfl,rfl,rfl,by decide +kernel,rfl,by decide +kernel,by decide +kernel⟩
theorem okZm (T:Txt K mg t):FnOk P w K mg base CX0 3 t.aZm t.dZm ["web"] (spZm K t.A_Web):=by
 refine T.fZm.ok scZm (λvs H Q E h=>?_) (λcdv A outer s H vs Q E hr h=>?_)
 .obtain⟨w,n,ps,rfl,_⟩:=h;rfl
 .obtain⟨w,n,ps,rfl,hW,hG,q⟩:=h;refine⟨_,(Zz6 (Zk (Za (okZ3 T) (hr.mono (by decide)) rfl T.mZ3 T.fZ3.kp T.bZ3 .nil ZJ (Zz0 (Za (okZ5 T) (hr.mono (by decide)) rfl T.mZ5 T.fZ5.kp T.bZ5 .nil ZJ (Zz0 (Za (okZl T) (hr.mono (by decide)) rfl T.mZl T.fZl.kp T.bZl .nil ZJ (Zz0 (pv 0) Zz3)) (Zz0 (Zp Zw3 (ZO K (pv 0) rfl) Zz8) Zz3))) Zz3)))),?_⟩;obtain⟨g1,g2,g3,g4⟩:=id hG;refine⟨_,rfl,w,n,ps,rfl,hW,hG,λr ys L H1 s1 hr hT hf=>?_⟩;obtain⟨dx,tl,xs,h1,h2,h3⟩:=id hW;refine⟨_,rfl,w,_,dx,_,_,rfl,s1 _ _ h1,T.cl_Web,T.n_Web_places,Zz91 _ _,_,_,rfl,rfl,?_⟩;obtain⟨k,hk⟩:∃ k:Nat,n - 1=(k:Int):=⟨(n - 1).toNat,by omega⟩;have hnk:n.toNat=k+1:=by grind
  have hLl:=hT.len;have hTB:Bears (ZZ6 H1) ys L:=hT.rows.imp λ_ _ h=>h.list
  refine⟨r,ys,L,k,?_,SqL.of hT.tab,hTB,by grind,λl h=>by rw[hT.all l h];grind,by lia,λr2 zs H2 s2 hr2 hZ=>?_⟩
  .show [V.ref r,V.int (n - 1)]=_;rw[hk]
  have w1:∀ e∈ZK1 ps (List.replicate ps.length (1:Int)),e.2.2=1:=λe he=>by
   unfold ZK1 at he;obtain⟨i,hi⟩:=Y0f he;rw[Y0O]at hi;cases h1:ps[i]? with
   | none=>rw[h1]at hi;cases hi
   | some p =>
    cases h2:(List.replicate ps.length (1:Int))[i]? with
    | none=>rw[h1,h2]at hi;cases hi
    | some w =>
     rw[h1,h2]at hi;obtain rfl:=Yd hi;exact Y1i (Yy8 h2)
  have el:(ZK1 ps (List.replicate ps.length (1:Int))).length<=30:=by unfold ZK1;rw[Y1f,YF];lia
  have hM:(cutz L (k:Int)).map (λl=>cutz l (k:Int))=(L.take k).map λl=>l.take k:=by rw[ZF6 (by lia)];exact YM λl hl=>ZF6 (by rw[hT.all l (Y0T hl)];lia)
  rw[hM]at hZ;have hMl:((L.take k).map λl=>l.take k).length=k:=by rw[Yc,YI];grind
  have hfn:∀ i j,i<k->j<k->fnL ((L.take k).map λl=>l.take k) i j=lapE (ZK1 ps (List.replicate ps.length 1)) i j:=λi j hi hj=>by
   rw[<- hf i j (by grind) (by grind)];obtain⟨l,hl⟩:∃ l,L[i]?=some l:=⟨_,Yy2 (by grind)⟩;have hll:=hT.all l (Yy8 hl)
   obtain⟨x,hx⟩:∃ x,l[j]?=some x:=⟨_,Yy2 (by grind)⟩;rw[Zj2 hl hx];exact Zj2 (l:=l.take k) (by rw[Yp,Y2y,if_pos hi,hl];rfl) (by rwa[Y2y,if_pos hj])
  refine⟨r2,false,zs,(L.take k).map λl=>l.take k,rfl,SqL.of hr2,hZ.imp (λ_ _ ⟨r',e,h⟩=>⟨r',false,e,SqL.of h⟩),by rw[hMl];lia,λi j hi hj=>?_,λ_ H3 s3=>?_,λh=>absurd (λl hl=>?_) h⟩
  .rw[hMl]at hi hj;rw[hfn i j hi hj];exact YD (Zc8 w1 i j) (YD el (YD (by decide:30<=2 ^ 5) (Nat.pow_le_pow_right (by decide) (by decide))))
  .have hd:det ((L.take k).map λl=>l.take k).length (fnL ((L.take k).map λl=>l.take k))=det (n - 1).toNat (lapE (ZK1 ps (List.replicate ps.length 1))):=by rw[hMl,show(n - 1).toNat=k by lia];exact Zg λi j hi hj=>hfn i j hi hj
   obtain⟨c,M,a1,a2,a3⟩:∃ c,TC n ps c:=by obtain⟨M,a1,a2,_⟩:=Zk1 _ (n - 1).toNat (ZK1 ps (List.replicate ps.length 1)) rfl (ZF11 hG _);exact⟨M.length,M,a1,λl=>by rw[a2,Zf8 g1 YF],rfl⟩
   rw[hd,ZI8 hG a1 a2,a3];exact q c H3 ⟨M,a1,a2,a3⟩ (s1.trans (s2.trans s3))
  .obtain⟨l0,h0,rfl⟩:=Yx.mp hl;rw[hMl,YI,hT.all l0 (Y0T h0)];grind
def spZn:Sp:=λ_ _ _ _=>False
theorem scZn:FnScope ["web","inside","outside","marks","firsts","numbers","gone","free"] ["web","inside","outside"] (Zz4 sZn):=⟨rfl,rfl,rfl,by decide +kernel,rfl,by decide +kernel,by decide +kernel⟩
theorem okZn (T:Txt K mg t):FnOk P w K mg base CX0 1 t.aZn t.dZn ["web","inside","outside"] spZn:=by
 refine T.fZn.ok scZn (λvs H Q E h=>?_) (λcdv A outer s H vs Q E hr h=>?_)
 .exact False.elim h
 .exact False.elim h
def spZo(K:Ad)(C:Addr):Sp:=λvs H Q _=>∃(w a:Addr) (n:Int) (ps:Aa) (kd:Bool) (ns:Ac),vs=[.ref w,.ref a]/\WebAt C H w n ps/\Zy n ps/\SqK kd K H a (IL ns) /\
 ∀(b:Bool) (H':Hp),Same H H'->(b=true↔Zf n ps ns)->Q (.bl b) H'
theorem scZo:FnScope ["web","ties"] ["web","ties"] (Zz4 sZo):=⟨rfl,rfl,rfl,by decide +kernel,rfl,by decide +kernel,by decide +kernel⟩
theorem okZo (T:Txt K mg t):FnOk P w K mg base CX0 6 t.aZo t.dZo ["web","ties"] (spZo K t.A_Web):=by
 refine T.fZo.ok scZo (λvs H Q E h=>?_) (λcdv A outer s H vs Q E hr h=>?_)
 .obtain⟨w,a,n,ps,kd,ns,rfl,_⟩:=h;rfl
 .obtain⟨w,a,n,ps,kd,ns,rfl,hW,hG,hS,q⟩:=h;refine⟨_,(Zz6 (Zk (ZU10 (Za (okZd T) (hr.mono (by decide)) rfl T.mZd T.fZd.kp T.bZd .nil ZJ (Zz0 (pv 0) (Zz0 (pv 1) Zz3))) (ZU10 (Zz64 Zz33 (Zd (Zh K) (by rfl) T.n_len Boot.«len» (Zz0 (pv 1) Zz3)) (Zp Zw3 (ZO K (pv 0) rfl) Zz8) (Zq _)) (ZE12 (Za (okZi T) (hr.mono (by decide)) rfl T.mZi T.fZi.kp T.bZi .nil ZJ (Zz0 (pv 0) (Zz0 (pv 1) Zz3)))))))),?_⟩;refine⟨_,rfl,_,rfl,w,a,n,ps,kd,ns,rfl,hW,hS,λb hb=>⟨b,rfl,?_⟩⟩;refine itb (λe=>?_) (λe=>?_)
  .have hI:=hb.mp e;obtain⟨dx,tl,xs,h1,h2,h3⟩:=id hW;refine⟨_,rfl,a,_,rfl,hS.or,_,rfl,w,_,dx,_,_,rfl,h1,T.cl_Web,T.n_Web_places,Zz91 _ _,_,_,rfl,rfl,rfl,_,rfl,?_⟩;rw[Zz5,Zw];refine itd2 (λhl=>?_) (λhl=>?_)
   .refine⟨_,rfl,_,rfl,w,a,n,ps,kd,ns,rfl,hW,hG,hS,hI,λb2 H' s hb2=>q b2 H' s ?_⟩;rw[hb2,Zc6 (by have:=hG.1;grind) (ZT hG hI.all)];exact⟨λz=>⟨hI,hl,z⟩,λz=>z.2.2⟩
   .exact q false H (Same.refl H) ⟨λz=>(nomatch z),λz=>absurd z.2.1 hl⟩
  .exact q false H (Same.refl H) ⟨λz=>(nomatch z),λz=>by rw[hb.mpr z.1]at e;cases e⟩
def spZp(K:Ad)(C B:Addr):Sp:=λvs H Q E=>∃(w a:Addr) (n:Int) (ps:Aa) (kd:Bool) (ns:Ac),vs=[.ref w,.ref a]/\WebAt C H w n ps/\Zy n ps/\SqK kd K H a (IL ns) /\
 (Zf n ps ns->∀ H':Hp,Same H H'->Q .non H')/\(¬ Zf n ps ns->∀ H':Hp,Same H H'->E (.ref B) none H')
theorem scZp:FnScope ["web","tree"] ["web","tree"] (Zz4 sZp):=⟨rfl,rfl,rfl,by decide +kernel,rfl,by decide +kernel,by decide +kernel⟩
theorem okZp (T:Txt K mg t):FnOk P w K mg base (CXW P w) 7 t.aZp t.dZp ["web","tree"] (spZp K t.A_Web t.A_NoTree):=by
 refine T.fZp.okX scZp (λvs H Q E h=>?_) (λcdv A outer s H vs Q E hr h=>?_)
 .obtain⟨w,a,n,ps,kd,ns,rfl,_⟩:=h;rfl
 .obtain⟨w,a,n,ps,kd,ns,rfl,hW,hG,hS,q,qe⟩:=h;refine⟨_,(Zz6 (Ze1 (Zq3 (ZE5 (Za (okZo T) (hr.mono (by decide)) rfl T.mZo T.fZo.kp T.bZo .nil ZJ (Zz0 (pv 0) (Zz0 (pv 1) Zz3)))))
   (Zz6 (ZV1 T.x_NoTree T.c_NoTree (Zz0 ZU Zz3)))
   Zm)),?_⟩
  refine⟨_,rfl,_,rfl,w,a,n,ps,kd,ns,rfl,hW,hG,hS,λb H' s hb=>⟨_,rfl,?_⟩⟩;refine itnb (λz=>?_) (λz=>?_)
  .exact q (hb.mp z) H' s
  .exact⟨by show 1<=sizeLine;decide,qe (λg=>by rw[hb.mpr g]at z;cases z) H' s⟩
def spZq(K:Ad)(C:Addr):Sp:=λvs H Q _=>∃(w a b:Addr) (n:Int) (ps:Aa) (ka kb:Bool) (ns os:Ac),vs=[.ref w,.ref a,.ref b]/\WebAt C H w n ps/\Zy n ps/\SqK ka K H a (IL ns)/\SqK kb K H b (IL os)/\ns.length<=1000/\os.length<=1000/\(∀ z∈ns++os,0<=z/\z<(ps.length:Int)) /\
 (((grw n.toNat ps (ns++os)).take ns.length≠ns\/((grw n.toNat ps (ns++os)).length:Int)<n - 1)->∀ H':Hp,Same H H'->Q .non H') /\
 ((grw n.toNat ps (ns++os)).take ns.length=ns->¬ ((grw n.toNat ps (ns++os)).length:Int)<n - 1->∀(r:Addr) (ms:Ac) (H':Hp),ms.Perm (grw n.toNat ps (ns++os))->ms.Pairwise (·<=·)->Same H H'->H r=none->H' r=some (.tup (IL ms))->Q (.ref r) H')
theorem scZq:FnScope ["web","inside","order","marks","grown","tie","ends"] ["web","inside","order"] (Zz4 sZq):=⟨rfl,rfl,rfl,by decide +kernel,rfl,by decide +kernel,by decide +kernel⟩
theorem okZq (T:Txt K mg t):FnOk P w K mg base CX0 3 t.aZq t.dZq ["web","inside","order"] (spZq K t.A_Web):=by
 refine T.fZq.ok scZq (λvs H Q E h=>?_) (λcdv A outer s H vs Q E hr h=>?_)
 .obtain⟨w,a,b,n,ps,ka,kb,ns,os,rfl,_⟩:=h;rfl
 .obtain⟨w,a,b,n,ps,ka,kb,ns,os,rfl,hW,hG,hS,hS2,hnl,hol,hI,q0,q1⟩:=h;refine⟨_,(Zz2 (Ze (i:=3) scZq.nd rfl (Or.inl rfl) (Za (okZg T) (hr.mono (by decide)) rfl T.mZg T.fZg.kp T.bZg .nil ZJ (Zz0 (pv 0) (Zz0 (ZE Zz3) Zz3))))
   (Zz2 (Ze (i:=4) scZq.nd rfl (Or.inl rfl) (Zz Zz3))
   (Zz2 (ZX YX rfl (ZY K (Zp Zz011 (Zn (ZI K) (by rfl) T.n_list Boot.«list» (Zz0 (pv 1) Zz3)) (Zn (ZI K) (by rfl) T.n_list Boot.«list» (Zz0 (pv 2) Zz3)))) (Zc (i:=5) scZq.nd rfl (Or.inl rfl))
   (Zz2 (Ze (i:=6) scZq.nd rfl (Or.inl rfl) (ZL (Zj K) (ZO K (pv 0) rfl) (pv 5) (λ_ _=>rfl)))
   (Zz6 (Ze1 (Zi Ze9 (ZL (Zj K) (pv 3) (ZL (ZD K) (pv 6) Zz8 (λ_ _=>rfl)) (λ_ _=>rfl)) (ZL (Zj K) (pv 3) (ZL (ZD K) (pv 6) Zz8 (λ_ _=>rfl)) (λ_ _=>rfl)) (Zq _))
   (Zz2 (Ze (i:=3) scZq.nd rfl (Or.inl rfl) (Za (okZf T) (hr.mono (by decide)) rfl T.mZf T.fZf.kp T.bZf .nil ZJ (Zz0 (pv 0) (Zz0 (pv 3) (Zz0 (ZE (Zz0 (pv 5) Zz3)) Zz3)))))
   (Zz6 (ZC (Zq1 K YL Y0b Y0a ZV (pv 4) (Zz0 (pv 5) Zz3)))))
   Zm))))
   (Zz2 (Ze1 (PW.pt (Zz913 (Zi (ZK5 K (hu8 hr)) (Zh1 (Zg1 K) (pv 4) ZH1 (ZG1 (Zd (Zh K) (by rfl) T.n_len Boot.«len» (Zz0 (pv 1) Zz3)))) (Zn (ZI K) (by rfl) T.n_list Boot.«list» (Zz0 (pv 1) Zz3)) (Zq _)) (ZI10 (Zi ZM5 (Zd (Zh K) (by rfl) T.n_len Boot.«len» (Zz0 (pv 4) Zz3)) (Zp Zw3 (ZO K (pv 0) rfl) Zz8) (Zq _)))))
   (Zz6 (Zk Zc7))
   Zm)
   (Zz6 (Zk (Zn (ZE1 K) (by rfl) T.n_tuple Boot.«tuple» (Zz0 (Zd (ZN3 K) (by rfl) T.n_sorted Boot.«sorted» (Zz0 (pv 4) Zz3)) Zz3)))))))),?_⟩
  obtain⟨g1,g2,g3,g4⟩:=id hG;have one:1<=sizeLine:=by decide
  refine⟨_,rfl,Yl _,λr0 hr0=>?_⟩;have s0:=same_at (o:=.tup []) hr0
  refine⟨w,r0,n,ps,[],rfl,hW.same s0,hG,SqT.of Zz1,λ_ e=>(nomatch e),λm H1 s1 hm0 hm1=>?_⟩;have s01:=s0.trans s1
  have hmf:=s0.free hm0;refine⟨Yl _,λgl hgl=>?_⟩;have s2:=same_at (o:=.lst []) hgl
  have s02:=s01.trans s2;have hgf:=s01.free hgl
  refine⟨_,rfl,a,_,rfl,(hS.same s02).or,λl1 hl1=>?_⟩;have s3:=same_at (o:=.lst (IL ns)) hl1
  have s03:=s02.trans s3;refine⟨_,rfl,b,_,rfl,(hS2.same s03).or,λl2 hl2=>?_⟩;have s4:=same_at (o:=.lst (IL os)) hl2
  have s04:=s03.trans s4;refine⟨l1,l2,_,_,rfl,rfl,s4 _ _ Zz1,Zz1,Zk2 (by rw[Zz5,Zz5];lia),λcl hcl=>?_⟩;have s5:=same_at (o:=.lst (IL ns++IL os)) hcl
  have s05:=s04.trans s5;have eI:IL ns++IL os=IL (ns++os):=(Zs7 _ _).symm
  have hgl5:=s5 _ _ (s4 _ _ (s3 _ _ (Zz1 (H:=H1) (a:=gl) (o:=.lst []))));have hm5:=s5 _ _ (s4 _ _ (s3 _ _ (s2 _ _ hm1)))
  have hcl5:=Zz1 (H:=upd (upd (upd H1 gl (.lst [])) l1 (.lst (IL ns))) l2 (.lst (IL os))) (a:=cl) (o:=.lst (IL ns++IL os));have ncg:cl≠gl:=λe=>by rw[e]at hcl;exact absurd ((s4 _ _ (s3 _ _ (Zz1 (H:=H1) (a:=gl) (o:=.lst [])))).symm.trans hcl) (by simp)
  have nmg:m≠gl:=λe=>by rw[e]at hm1;exact absurd (hm1.symm.trans hgl) (by simp)
  rw[eI]at s5 s05 hgl5 hm5 hcl5 ⊢;generalize upd (upd (upd (upd H1 gl (.lst [])) l1 (.lst (IL ns))) l2 (.lst (IL os))) cl (.lst (IL (ns++os)))=H5 at *;refine⟨cl,rfl,⟨_,SqL.of hcl5⟩,ZC1 (K:=K) (a:=cl) (xs:=IL (ns++os)) (λi σ H2=>∃(mc:Addr) (v5 v6:Option V),σ=[some (.ref w),some (.ref a),some (.ref b),some (.ref mc),some (.ref gl),v5,v6]/\Same H H2/\mc≠gl /\
    H2 cl=some (.lst (IL (ns++os)))/\H2 mc=some (.lst (IL (pms n.toNat (Zz7 ps (grw n.toNat ps ((ns++os).take i))))))/\H2 gl=some (.lst (IL (grw n.toNat ps ((ns++os).take i)))))
   ⟨m,none,none,rfl,s05,nmg,hcl5,hm5,hgl5⟩ (λi σ H2 _ ⟨_,_,_,_,_,_,e,_⟩=>SqL.of e) ?_ ?_⟩
  .rintro i x σ H2 hi ⟨mc,v5,v6,rfl,s2,hne,hc2,hm2,hg2⟩;obtain⟨z,rfl,hz⟩:=Zb1 hi;obtain⟨z0,z1⟩:=hI z (Yy8 hz);have hIt:∀ y∈(ns++os).take i,0<=y/\y<(ps.length:Int):=λy hy=>hI y (Y0T hy)
   have est:(ns++os).take (i+1)=(ns++os).take i++[z]:=by rw[YS,hz];rfl
   have eG:grw n.toNat ps ((ns++os).take (i+1))=gst n.toNat ps (grw n.toNat ps ((ns++os).take i)) z:=by rw[est,Zz01]
   have hin:=ZZ4 hG hIt;have hgl14:=Zk8 hG hIt
   generalize grw n.toNat ps ((ns++os).take i)=G at *;obtain⟨dx,tl,xs,h1,h2,h3⟩:=hW.same s2;obtain⟨p,hp⟩:∃ p,ps[z.toNat]?=some p:=⟨_,Yy2 (by lia)⟩;obtain⟨v,hv,tt,rfl,htt⟩:=h3.2 z.toNat p hp;obtain⟨e1,e2,e3,e4⟩:=g4 p (Yy8 hp);have ed:Zu ps z=(p.1.toNat,p.2.toNat):=by unfold Zu;rw[getD_of hp]
   have hl:(pms n.toNat (Zz7 ps G)).length=n.toNat:=Zo _ _;have iA:atI (IL (pms n.toNat (Zz7 ps G))) p.1=some (.int (mk (pms n.toNat (Zz7 ps G)) p.1.toNat)):=ZN (n:=p.1.toNat) (by lia) (ZW4 (ZJ1 (by grind)))
   have iB:atI (IL (pms n.toNat (Zz7 ps G))) p.2=some (.int (mk (pms n.toNat (Zz7 ps G)) p.2.toNat)):=ZN (n:=p.2.toNat) (by lia) (ZW4 (ZJ1 (by grind)));have t0:atI ([.int p.1,.int p.2]:List V) 0=some (.int p.1):=rfl
   have t1:atI ([.int p.1,.int p.2]:List V) 1=some (.int p.2):=rfl;have key:mk (pms n.toNat (Zz7 ps G)) p.1.toNat=mk (pms n.toNat (Zz7 ps G)) p.2.toNat↔mk (lms n.toNat (Zz7 ps G)) (Zu ps z).1=mk (lms n.toNat (Zz7 ps G)) (Zu ps z).2:=by rw[ed,Zz03 hin (by grind) (by grind),ZM hin (by grind) (by grind)]
   refine⟨_,rfl,w,_,dx,_,_,rfl,h1,T.cl_Web,T.n_Web_ties,Zr1 _ _,_,rfl,tl,xs,z,.ref tt,rfl,rfl,SqL.of h2,ZN (n:=z.toNat) (by lia) hv,?_⟩;refine⟨_,rfl,_,rfl,tt,_,0,_,rfl,rfl,SqT.of htt,t0,mc,_,p.1,_,rfl,rfl,SqL.of hm2,iA,_,rfl,_,rfl,tt,_,1,_,rfl,rfl,SqT.of htt,t1,mc,_,p.2,_,rfl,rfl,SqL.of hm2,iB,rfl,_,rfl,?_⟩;rw[Zw];refine itn2 (λhe=>?_) (λhe=>?_)
   .refine⟨mc,_,_,rfl,s2,hne,hc2,?_,?_⟩
    .rw[eG];unfold gst;rwa[if_pos (key.mp he)]
    .rw[eG];unfold gst;rwa[if_pos (key.mp he)]
   .have eG2:grw n.toNat ps ((ns++os).take (i+1))=G++[z]:=by rw[eG];unfold gst;rw[if_neg (λe=>he (key.mpr e))]
    refine⟨_,rfl,_,rfl,_,rfl,one,λp2 hp2=>?_⟩;have s6:=same_at (o:=.tup [.int z]) hp2
    refine⟨w,mc,p2,n,ps,_,true,[z],rfl,(hW.same s2).same s6,hG,s6 _ _ hm2,hl,SqT.of Zz1,λy hy=>by rw[Yy1.mp hy];exact⟨z0,z1⟩,λm' H7 s7 hf hm7=>?_⟩;have s67:=s6.trans s7
    have hg7:=s67 _ _ hg2;have hc7:=s67 _ _ hc2
    have nm':m'≠gl:=by
     rcases hf with rfl | hf
     .exact hne
     .exact λe=>absurd ((s6 _ _ hg2).symm.trans (e ▸ hf)) (by simp)
    refine⟨_,rfl,.inl ⟨rfl,_,SqL.of hg7⟩,_,rfl,gl,_,_,rfl,rfl,hg7,Zr (by rw[Zz5];lia),?_⟩;refine⟨m',_,_,rfl,Zs hgf (s2.trans s67),nm',?_,?_,?_⟩
    .rw[Zz9 ncg];exact hc7
    .rw[Zz9 nm',hm7,eG2,ZQ,ZG5];rfl
    .rw[Zz1,eG2,Zd1]
  .rintro σ H2 ⟨mc,v5,v6,rfl,s2,hne,hc2,hm2,hg2⟩;rw[Zz5,QP]at hg2;have hgl14:=Zk8 hG hI
   generalize grw n.toNat ps (ns++os)=G at *;refine⟨_,rfl,_,rfl,a,_,rfl,(hS.same s2).or,_,rfl,gl,_,rfl,SqL.of hg2,λr1 hr1=>?_⟩;have ec:cutV (IL G) none (some ((IL ns).length:Int))=IL (G.take ns.length):=by rw[ZG6 (by lia),Yw,Zz5,Zi8]
   rw[ec];have s3:=same_at (o:=.lst (IL (G.take ns.length))) hr1
   refine⟨_,rfl,a,_,rfl,(hS.same (s2.trans s3)).or,λr2 hr2=>?_⟩;have s4:=same_at (o:=.lst (IL ns)) hr2
   refine⟨1,_,r1,r2,rfl,rfl,by decide,ZL9 (SqL.of (s4 _ _ Zz1)) (SqL.of Zz1),_,rfl,?_⟩;have s24:=s2.trans (s3.trans s4)
   refine itn2 (λhe=>?_) (λhe=>?_)
   .obtain⟨dx,tl,xs,h1,h2,h3⟩:=hW.same s24;have hg4:=s4 _ _ (s3 _ _ hg2)
    refine⟨_,rfl,gl,_,rfl,.inl (SqL.of hg4),_,rfl,w,_,dx,_,_,rfl,h1,T.cl_Web,T.n_Web_places,Zz91 _ _,_,_,rfl,rfl,_,_,rfl,rfl,_,rfl,?_⟩;rw[Zz5];refine itd2 (λhc=>?_) (λhc=>?_)
    .exact q0 (.inr hc) _ s24
    .refine⟨_,rfl,gl,G,rfl,SqL.of hg4,by lia,λms hp1 hp2 l hl=>?_⟩;have s5:=same_at (o:=.lst (IL ms)) hl
     refine⟨l,_,rfl,.inl ⟨SqL.of Zz1,λr hr=>?_⟩⟩;exact q1 he hc r ms _ hp1 hp2 ((s24.trans s5).trans (same_at hr)) ((s24.trans s5).free hr) Zz1
   .refine iteT ?_;exact q0 (.inl he) _ s24
def spZr(K:Ad)(C B:Addr):Sp:=λvs H Q E=>∃(w:Addr) (n:Int) (ps:Aa),vs=[.ref w]/\WebAt C H w n ps/\Zy n ps /\
 (¬ ((grd n.toNat ps ps.length).length:Int)<n - 1->∀(r:Addr) (H':Hp),Same H H'->H' r=some (.tup (IL (grd n.toNat ps ps.length)))->Q (.ref r) H') /\
 (((grd n.toNat ps ps.length).length:Int)<n - 1->∀ H':Hp,Same H H'->E (.ref B) none H')
theorem scZr:FnScope ["web"] ["web"] (Zz4 sZr):=⟨rfl,rfl,rfl,by decide +kernel,rfl,by decide +kernel,by decide +kernel⟩
theorem okZr (T:Txt K mg t):FnOk P w K mg base (CXW P w) 7 t.aZr t.dZr ["web"] (spZr K t.A_Web t.A_Parted):=by
 refine T.fZr.okX scZr (λvs H Q E h=>?_) (λcdv A outer s H vs Q E hr h=>?_)
 .obtain⟨w,n,ps,rfl,_⟩:=h;rfl
 .obtain⟨w,n,ps,rfl,hW,hG,q,q1⟩:=h;refine⟨_,(Zz2 (ZC (Za (okZj T) (hr.mono (by decide)) rfl T.mZj T.fZj.kp T.bZj .nil pxs (Zz0 (pv 0) Zz3)))
   (Zz6 (Zk (Za (okZq T) (hr.mono (by decide)) rfl T.mZq T.fZq.kp T.bZq .nil ZJ (Zz0 (pv 0) (Zz0 (ZE Zz3) (Zz0 (Za (okZa T) (hr.mono (by decide)) rfl T.mZa T.fZa.kp T.bZa .nil ZJ (Zz0 (pv 0) Zz3)) Zz3))))))),?_⟩
  have hall:∀ z∈rgL ps.length,0<=z/\z<(ps.length:Int):=λz hz=>rgL_mem.mp hz;have eg:grw n.toNat ps (rgL ps.length)=grd n.toNat ps ps.length:=Zi4 _ _ _
  have hj:=Zf6 hG;refine⟨_,rfl,w,n,ps,rfl,hW,hG,λhJ H1 s1=>?_,λhJ H1 s1=>q1 (by rw[hj]at hJ;omega) H1 s1⟩;have hf:=hj.mp hJ
  refine⟨_,rfl,Yl _,λr0 hr0=>?_⟩;have s0:=same_at (o:=.tup []) hr0
  have s10:=s1.trans s0;refine⟨_,rfl,w,n,ps,rfl,hW.same s10,by have:=hG.2.2.1;lia,λr2 H2 s2 hr20 hr2=>?_⟩;refine⟨w,r0,r2,n,ps,true,true,[],rgL ps.length,rfl,(hW.same s10).same s2,hG,SqT.of (s2 _ _ Zz1),SqT.of hr2,Yl _,by rw[Zz31];have:=hG.2.2.1;omega,hall,λhx H3 s3=>?_,λ_ _ r3 ms H3 hp1 hp2 s3 hr30 hr3=>?_⟩
  .rw[Y1S,eg]at hx;rcases hx with hx | hx
   .exact absurd rfl hx
   .exact absurd hx hf
  .rw[Y1S,eg]at hp1;have e:ms=grd n.toNat ps ps.length:=ZN4 hp1 hp2 ((Zm4 _).imp λh=>by lia)
   rw[e]at hr3;exact q hf r3 H3 (s10.trans (s2.trans s3)) hr3
def spZs:Sp:=λ_ _ _ _=>False
theorem scZs:FnScope ["web","tree","tie","marks"] ["web","tree","tie"] (Zz4 sZs):=⟨rfl,rfl,rfl,by decide +kernel,rfl,by decide +kernel,by decide +kernel⟩
theorem okZs (T:Txt K mg t):FnOk P w K mg base CX0 1 t.aZs t.dZs ["web","tree","tie"] spZs:=by
 refine T.fZs.ok scZs (λvs H Q E h=>?_) (λcdv A outer s H vs Q E hr h=>?_)
 .exact False.elim h
 .exact False.elim h
def spZt(K:Ad)(C B:Addr):Sp:=λvs H Q E=>∃(w a:Addr) (n:Int) (ps:Aa) (kd:Bool) (ns:Ac),vs=[.ref w,.ref a]/\WebAt C H w n ps/\Zy n ps/\SqK kd K H a (IL ns)/\¬ Zf n ps ns/\∀ H':Hp,Same H H'->E (.ref B) none H'
theorem scZt:FnScope ["web","tree","exchanges","out"] ["web","tree"] (Zz4 sZt):=⟨rfl,rfl,rfl,by decide +kernel,rfl,by decide +kernel,by decide +kernel⟩
theorem okZt (T:Txt K mg t):FnOk P w K mg base (CXW P w) 8 t.aZt t.dZt ["web","tree"] (spZt K t.A_Web t.A_NoTree):=by
 refine T.fZt.okX scZt (λvs H Q E h=>?_) (λcdv A outer s H vs Q E hr h=>?_)
 .obtain⟨w,a,n,ps,kd,ns,rfl,_⟩:=h;rfl
 .obtain⟨w,a,n,ps,kd,ns,rfl,hW,hG,hS,hno,q⟩:=h;refine⟨_,(Zz2 (ZC (Za (okZp T) (hr.mono (by decide)) rfl T.mZp T.fZp.kp T.bZp .nil pxs (Zz0 (pv 0) (Zz0 (pv 1) Zz3))))
   (Zz2 (Ze (i:=2) scZt.nd rfl (Or.inl rfl) (Zz Zz3))
   (Zz2 (ZX Y1P rfl (ZZ1 K (pv 1)) (Zc (i:=3) scZt.nd rfl (Or.inr rfl))
   (Zz6 (ZC (Zq1 K YL Y1Z Y1Y Zy2 (pv 2) (Zz0 (ZP4 rfl (sc0:=Zz4 sZt) (N0:=["web","tree","exchanges","out"]) (N':=["into","out"]) (o:=1) (fr:=[3]) ⟨rfl,by decide +kernel,by decide +kernel,by decide +kernel,rfl,by decide +kernel⟩ (ZY1 K (Za (okZc T) (hr.mono (by decide)) rfl T.mZc T.fZc.kp T.bZc .nil ZJ (Zz0 (Za (okZs T) (hr.mono (by decide)) rfl T.mZs T.fZs.kp T.bZs .nil ZJ (Zz0 (pv 0) (Zz0 (pv 1) (Zz0 (pv 3) Zz3)))) (Zz0 (pv 3) Zz3)))) (ZK (by decide)) (λ_ _ _ _=>(Zc (i:=0) (show List.Nodup (["into","out"]:List Str) by decide +kernel) rfl (Or.inl rfl))) (λ_ _ _ _=>ZS) (λ_ _ _ _=>(ZE (Zz0 (pv 1) (Zz0 (pv 0) Zz3))))) Zz3)))))
   (Zz6 (Zk (pv 2)))))),?_⟩
  exact⟨_,rfl,_,rfl,w,a,n,ps,kd,ns,rfl,hW,hG,hS,λhT=>absurd hT hno,λ_=>q⟩
def spZu(K:Ad)(C N:Addr):Sp:=λvs H Q E=>∃(w:Addr) (n:Int) (ps:Aa) (z:Int),vs=[.ref w,.int z]/\WebAt C H w n ps/\Zy n ps/\-(10 ^ 70)<z/\z<10 ^ 70/\(∀ c:Nat,TC n ps c->0<=z->(c:Int)<=z)/\∀ H':Hp,Same H H'->E (.ref N) none H'
theorem scZu:FnScope ["web","number","inside","outside","tie","size"] ["web","number"] (Zz4 sZu):=⟨rfl,rfl,rfl,by decide +kernel,rfl,by decide +kernel,by decide +kernel⟩
theorem okZu (T:Txt K mg t):FnOk P w K mg base (CXW P w) 9 t.aZu t.dZu ["web","number"] (spZu K t.A_Web t.A_NoSuch):=by
 refine T.fZu.okX scZu (λvs H Q E h=>?_) (λcdv A outer s H vs Q E hr h=>?_)
 .obtain⟨w,n,ps,z,rfl,_⟩:=h;rfl
 .obtain⟨w,n,ps,z,rfl,hW,hG,z0,z1,hno,q⟩:=h;refine⟨_,(Zz2 (Ze1 (Zq3 (Zr3 Za10 ZM5 Zz8 (pv 1) (Za (okZm T) (hr.mono (by decide)) rfl T.mZm T.fZm.kp T.bZm .nil ZJ (Zz0 (pv 0) Zz3))))
   (Zz6 (ZV1 T.x_NoSuch T.c_NoSuch (Zz0 (ZQ10 (Zy12 (ZA12 (pv 1) Yz12))) Zz3)))
   Zm)
   (Zz2 (Ze (i:=2) scZu.nd rfl (Or.inl rfl) (ZE Zz3))
   (Zz2 (Ze (i:=3) scZu.nd rfl (Or.inl rfl) (ZE Zz3))
   (Zz2 (ZX Y1P rfl (ZY1 K (Za (okZa T) (hr.mono (by decide)) rfl T.mZa T.fZa.kp T.bZa .nil ZJ (Zz0 (pv 0) Zz3))) (Zc (i:=4) scZu.nd rfl (Or.inl rfl))
   (Zz2 (Ze (i:=5) scZu.nd rfl (Or.inl rfl) (Za (okZn T) (hr.mono (by decide)) rfl T.mZn T.fZn.kp T.bZn .nil ZJ (Zz0 (pv 0) (Zz0 (Zp (Zz42 K) (pv 2) (ZE (Zz0 (pv 4) Zz3))) (Zz0 (pv 3) Zz3)))))
   (Zz6 (Ze1 (Zi ZM5 (pv 1) (pv 5) (Zq _))
   (Zz6 (Ze (i:=2) scZu.nd rfl (Or.inl rfl) (Zp (Zz42 K) (pv 2) (ZE (Zz0 (pv 4) Zz3)))))
   (Zz2 (Zv12 (i:=1) scZu.nd rfl (Or.inl rfl) (pv 5) Yz9)
   (Zz6 (Ze (i:=3) scZu.nd rfl (Or.inl rfl) (Zp (Zz42 K) (pv 3) (ZE (Zz0 (pv 4) Zz3))))))))))
   (Zz6 (Zk (pv 2))))))),?_⟩
  have one:1<=sizeLine:=by decide
  refine⟨_,rfl,_,_,rfl,rfl,_,rfl,?_⟩;refine itd2 (λzp=>?_) (λzn=>?_);rotate_left
  .refine⟨_,rfl,?_⟩;refine iteT ?_;exact⟨_,rfl,z,rfl,z0,z1,λx=>⟨one,q H (Same.refl _)⟩⟩
  refine⟨_,rfl,w,n,ps,rfl,hW,hG,λc H1 hc s1=>⟨_,_,rfl,rfl,_,rfl,?_⟩⟩;refine itn2 (λzc=>?_) (λzc=>?_)
  .have:=hno c hc zp
   lia
  .exact⟨_,rfl,z,rfl,z0,z1,λx=>⟨one,q H1 s1⟩⟩
def spZv:Sp:=λ_ _ _ _=>False
theorem scZv:FnScope ["ties","bound"] ["ties","bound"] (Zz4 sZv):=⟨rfl,rfl,rfl,by decide +kernel,rfl,by decide +kernel,by decide +kernel⟩
theorem okZv (T:Txt K mg t):FnOk P w K mg base CX0 1 t.aZv t.dZv ["ties","bound"] spZv:=by
 refine T.fZv.ok scZv (λvs H Q E h=>?_) (λcdv A outer s H vs Q E hr h=>?_)
 .exact False.elim h
 .exact False.elim h
def spZw(K:Ad)(C B:Addr):Sp:=λvs H Q E=>∃(w a:Addr) (n:Int) (ps:Aa) (kd:Bool) (ns:Ac),vs=[.ref w,.ref a]/\WebAt C H w n ps/\Zy n ps/\SqK kd K H a (IL ns)/\¬ Zf n ps ns/\∀ H':Hp,Same H H'->E (.ref B) none H'
theorem scZw:FnScope ["web","tree","beside"] ["web","tree"] (Zz4 sZw):=⟨rfl,rfl,rfl,by decide +kernel,rfl,by decide +kernel,by decide +kernel⟩
theorem okZw (T:Txt K mg t):FnOk P w K mg base (CXW P w) 8 t.aZw t.dZw ["web","tree"] (spZw K t.A_Web t.A_NoTree):=by
 refine T.fZw.okX scZw (λvs H Q E h=>?_) (λcdv A outer s H vs Q E hr h=>?_)
 .obtain⟨w,a,n,ps,kd,ns,rfl,_⟩:=h;rfl
 .obtain⟨w,a,n,ps,kd,ns,rfl,hW,hG,hS,hno,q⟩:=h;refine⟨_,(Zz2 (ZC (Za (okZp T) (hr.mono (by decide)) rfl T.mZp T.fZp.kp T.bZp .nil pxs (Zz0 (pv 0) (Zz0 (pv 1) Zz3))))
   (Zz2 (Ze (i:=2) scZw.nd rfl (Or.inr rfl) (Za (okZb T) (hr.mono (by decide)) rfl T.mZb T.fZb.kp T.bZb .nil ZJ (Zz0 (pv 0) (Zz0 (pv 1) Zz3))))
   (Zz6 (Zk (Zd (ZF4 K rfl) (by rfl) T.n_sum Boot.«sum» (Zz0 (ZP4 rfl (sc0:=Zz4 sZw) (N0:=["web","tree","beside"]) (N':=["tie","web","tree","beside"]) (o:=1) (fr:=[0,1,2]) ⟨rfl,by decide +kernel,by decide +kernel,by decide +kernel,rfl,by decide +kernel⟩ (ZY1 K (pv 2)) (ZK (by decide)) (λ_ _ _ _=>(Zc (i:=0) (show List.Nodup (["tie","web","tree","beside"]:List Str) by decide +kernel) rfl (Or.inl rfl))) (λ_ _ _ _=>ZS) (λ_ _ _ _=>(Za (okZn T) (hr.mono (by decide)) rfl T.mZn T.fZn.kp T.bZn .nil ZJ (Zz0 (pv 1) (Zz0 (Zp (Zz42 K) (Za (okZv T) (hr.mono (by decide)) rfl T.mZv T.fZv.kp T.bZv .nil ZJ (Zz0 (pv 2) (Zz0 (pv 0) Zz3))) (ZE (Zz0 (pv 0) Zz3))) (Zz0 (Za (okZv T) (hr.mono (by decide)) rfl T.mZv T.fZv.kp T.bZv .nil ZJ (Zz0 (pv 3) (Zz0 (pv 0) Zz3))) Zz3)))))) Zz3)))))),?_⟩
  exact⟨_,rfl,_,rfl,w,a,n,ps,kd,ns,rfl,hW,hG,hS,λhT=>absurd hT hno,λ_=>q⟩
def smW(ls ns:Ac):Int:=(ns.map λz=>ls.getD z.toNat 0).sum
def spZx(K:Ad)(C R B:Addr):Sp:=λvs H Q E=>∃(w a b:Addr) (n:Int) (ps:Aa) (kd ke:Bool) (ls ns:Ac),vs=[.ref w,.ref a,.ref b]/\WebAt C H w n ps/\ps.length<=30/\SqK kd K H a (IL ls)/\SqK ke K H b (IL ns) /\
 (ls.length=ps.length->IsSet ps.length ns->∀ H':Hp,Same H H'->Q (.int (smW ls ns)) H')/\(ls.length≠ps.length->E (.ref R) none H)/\(ls.length=ps.length->¬ IsSet ps.length ns->E (.ref B) none H)
theorem scZx:FnScope ["web","lengths","ties"] ["web","lengths","ties"] (Zz4 sZx):=⟨rfl,rfl,rfl,by decide +kernel,rfl,by decide +kernel,by decide +kernel⟩
theorem okZx (T:Txt K mg t):FnOk P w K mg base (CXW P w) 4 t.aZx t.dZx ["web","lengths","ties"] (spZx K t.A_Web t.A_BadRow t.A_BadSet):=by
 refine T.fZx.okX scZx (λvs H Q E h=>?_) (λcdv A outer s H vs Q E hr h=>?_)
 .obtain⟨w,a,b,n,ps,kd,ke,ls,ns,rfl,_⟩:=h;rfl
 .obtain⟨w,a,b,n,ps,kd,ke,ls,ns,rfl,hW,p30,hA,hB,q,q1,q2⟩:=h;refine⟨_,(Zz2 (ZC (Za (okZ9 T) (hr.mono (by decide)) rfl T.mZ9 T.fZ9.kp T.bZ9 .nil pxs (Zz0 (pv 0) (Zz0 (pv 1) Zz3))))
   (Zz6 (Zk (Zd (ZF4 K rfl) (by rfl) T.n_sum Boot.«sum» (Zz0 (ZP4 rfl (sc0:=Zz4 sZx) (N0:=["web","lengths","ties"]) (N':=["tie","lengths"]) (o:=1) (fr:=[1]) ⟨rfl,by decide +kernel,by decide +kernel,by decide +kernel,rfl,by decide +kernel⟩ (ZY1 K (Za (okZe T) (hr.mono (by decide)) rfl T.mZe T.fZe.kp T.bZe .nil pxs (Zz0 (pv 0) (Zz0 (pv 2) Zz3)))) (ZK (by decide)) (λ_ _ _ _=>(Zc (i:=0) (show List.Nodup (["tie","lengths"]:List Str) by decide +kernel) rfl (Or.inl rfl))) (λ_ _ _ _=>ZS) (λ_ _ _ _=>(ZL (Zg4 K) (pv 1) (pv 0) (λ_ _=>rfl)))) Zz3))))),?_⟩
  refine⟨_,rfl,_,rfl,w,a,n,ps,kd,ls,rfl,hW,hA,λhl=>?_,q1⟩;refine⟨_,rfl,_,rfl,w,b,n,ps,ke,ns,rfl,hW,hB,λhI r H1 s1 hr=>?_,q2 hl⟩;have hms:=isSet_iff.mp hI
  have hlen:=hI.len;refine⟨r,rfl,⟨_,hr⟩,Zt9 (K:=K) (a:=r) (xs:=IL ns) (λi ws H2=>H2=H1/\ws=IL ((ns.take i).map λz=>ls.getD z.toNat 0)/\i<=ns.length) ⟨rfl,rfl,Yl _⟩ (Zr (by rw[Zz5];lia)) (λi ws H2 hi ⟨e,ew,hi2⟩=>⟨e ▸ hr,by rw[ew,Zz5,Yc,YI];lia⟩) ?_ ?_⟩
  .rintro i v ws H2 hi ⟨rfl,rfl,hil⟩ S hSS;obtain⟨z,rfl,hz⟩:=Zb1 hi;obtain⟨z0,z1⟩:=hms.1 z (Yy8 hz);obtain⟨y,hy⟩:∃ y,ls[z.toNat]?=some y:=⟨_,Yy2 (by grind)⟩;refine nm ?_;refine⟨_,rfl,_,rfl,kd,a,_,_,.int y,rfl,rfl,hA.same s1,ZN (n:=z.toNat) (by lia) (ZW4 hy),?_⟩;refine hSS _ _ ⟨rfl,?_,(Yy3.mp hz).1⟩;have e:ls.getD z.toNat 0=y:=getD_of hy
   rw[YS,hz,YC,<- e];exact(Zd1 _ _).symm
  .rintro ws H2 ⟨rfl,rfl,_⟩ lA hlA;refine⟨lA,_,rfl,SqL.of Zz1,?_⟩;rw[Zz5,QP];exact q hl hI _ (s1.trans (same_at hlA))
def spZy(K:Ad)(C R:Addr):Sp:=λvs H Q E=>∃(w b:Addr) (n:Int) (ps:Aa) (ls:Ac),vs=[.ref w,.ref b]/\WebAt C H w n ps/\Zy n ps/\SqL K H b (IL ls)/\(ls.length=ps.length->∀(w':Addr) (H':Hp),Same H H'->WebAt C H' w' n (cwT n.toNat ps ls)->Q (.ref w') H')/\(ls.length≠ps.length->E (.ref R) none H)
theorem ZU12{xs:List V}{i:Int}(h0:0<=i)(h1:i<(xs.length:Int)):ixN xs.length i=some i.toNat:=by unfold ixN;rw[if_pos h0,if_pos (by omega)]
theorem scZy:FnScope ["web","lengths","made","marks","length","level","merged","spots","tie","ends"] ["web","lengths"] (Zz4 sZy):=⟨rfl,rfl,rfl,by decide +kernel,rfl,by decide +kernel,by decide +kernel⟩
theorem okZy (T:Txt K mg t):FnOk P w K mg base (CXW P w) 4 t.aZy t.dZy ["web","lengths"] (spZy K t.A_Web t.A_BadRow):=by
 refine T.fZy.okX scZy (λvs H Q E h=>?_) (λcdv A outer s H vs Q E hr h=>?_)
 .obtain⟨w,b,n,ps,ls,rfl,_⟩:=h;rfl
 .obtain⟨w,b,n,ps,ls,rfl,hW,hG,hS,q,qe⟩:=h;refine⟨_,(Zz2 (ZC (Za (okZ9 T) (hr.mono (by decide)) rfl T.mZ9 T.fZ9.kp T.bZ9 .nil pxs (Zz0 (pv 0) (Zz0 (pv 1) Zz3))))
   (Zz2 (Ze (i:=2) scZy.nd rfl (Or.inl rfl) (Zn (ZI K) (by rfl) T.n_list Boot.«list» (Zz0 (ZO K (pv 0) rfl) Zz3)))
   (Zz2 (Ze (i:=3) scZy.nd rfl (Or.inl rfl) (Za (okZg T) (hr.mono (by decide)) rfl T.mZg T.fZg.kp T.bZg .nil ZJ (Zz0 (pv 0) (Zz0 (ZE Zz3) Zz3))))
   (Zz2 (ZX Y1P rfl (ZY K (Zu3 K rfl rfl T.n_sorted rfl T.n_set (Zz0 (pv 1) Zz3))) (Zc (i:=4) scZy.nd rfl (Or.inr rfl))
   (Zz2 (Zz29 (i:=5) rfl scZy.nd rfl rfl (sc0:=Zz4 sZy) (N0:=["web","lengths","made","marks","length","level","merged","spots","tie","ends"]) (N':=["tie","own","length"]) (o:=2) (fr:=[4]) ⟨rfl,by decide +kernel,by decide +kernel,by decide +kernel,rfl,by decide +kernel⟩ (Zz02 K rfl T.n_enumerate (Zz0 (pv 1) Zz3)) (Zz22 (ZH (by decide) (ZH (by decide) Zz32))) (λ_ _ _ _=>(Zz51 (n:=2) K rfl (Zl (Zc (i:=0) (show List.Nodup (["tie","own","length"]:List Str) by decide +kernel) rfl (Or.inl rfl)) (Zl (Zc (i:=1) (show List.Nodup (["tie","own","length"]:List Str) by decide +kernel) rfl (Or.inl rfl)) Zz41)))) (λ_ _ _ _=>(ZY2 (Zi Zz33 (pv 1) (pv 2) (Zq _)))) (λ_ _ _ _=>(pv 0)))
   (Zz2 (Ze (i:=6) scZy.nd rfl (Or.inl rfl) (Za (okZf T) (hr.mono (by decide)) rfl T.mZf T.fZf.kp T.bZf .nil ZJ (Zz0 (pv 0) (Zz0 (pv 3) (Zz0 (pv 5) Zz3)))))
   (Zz2 (Zz29 (i:=7) rfl scZy.nd rfl rfl (sc0:=Zz4 sZy) (N0:=["web","lengths","made","marks","length","level","merged","spots","tie","ends"]) (N':=["mark","later"]) (o:=2) (fr:=[]) ⟨rfl,by decide +kernel,by decide +kernel,by decide +kernel,rfl,by decide +kernel⟩ (Zz89 K rfl T.n_zip (Zz0 (pv 3) (Zz0 (pv 6) Zz3))) (Zz22 (ZH (by decide) (ZH (by decide) Zz32))) (λ_ _ _ _=>(Zz51 (n:=2) K rfl (Zl (Zc (i:=0) (show List.Nodup (["mark","later"]:List Str) by decide +kernel) rfl (Or.inl rfl)) (Zl (Zc (i:=1) (show List.Nodup (["mark","later"]:List Str) by decide +kernel) rfl (Or.inl rfl)) Zz41)))) (λ_ _ _ _=>ZS) (λ_ _ _ _=>(Zv3 (Zi Zz33 (pv 0) (pv 1) (Zq _)) Zz8 (pv 0))))
   (Zz2 (ZX Y1P rfl (ZY K (pv 5)) (Zc (i:=8) scZy.nd rfl (Or.inl rfl))
   (Zz2 (Ze (i:=9) scZy.nd rfl (Or.inl rfl) (ZL (Zj K) (ZO K (pv 0) rfl) (pv 8) (λ_ _=>rfl)))
   (Zz6 (Zz39 (ZE (Zz0 (ZL (Zj K) (pv 7) (ZL (ZD K) (pv 9) Zz8 (λ_ _=>rfl)) (λ_ _=>rfl)) (Zz0 (ZL (Zj K) (pv 7) (ZL (ZD K) (pv 9) Zz8 (λ_ _=>rfl)) (λ_ _=>rfl)) Zz3))) (ZP10 (pv 2) (pv 8) Zy1)))))
   (Zz6 (Ze (i:=3) scZy.nd rfl (Or.inl rfl) (pv 6))))))))
   (Zz6 (Zk (Zz28 T.k_Web (okZ8 T) (hr.mono (by decide)) rfl T.c_Web T.bZ8 .nil ZJ (Zz0 (ZO K (pv 0) rfl) (Zz0 (pv 2) Zz3))))))))),?_⟩
  obtain⟨g1,g2,g3,g4⟩:=id hG;obtain⟨dx,tl,xs,h1,h2,h3⟩:=id hW;have hxl:=h3.1
  refine⟨_,rfl,_,rfl,w,b,n,ps,false,ls,rfl,hW,hS,λhl=>?_,qe⟩;refine⟨_,rfl,w,_,dx,_,_,rfl,h1,T.cl_Web,T.n_Web_ties,Zr1 _ _,tl,xs,rfl,.inl (SqL.of h2),λmd hmd=>?_⟩;have u1:=same_at (o:=.lst xs) hmd
  have m1:=Zz1 (H:=H) (a:=md) (o:=.lst xs);generalize upd H md (.lst xs)=H1 at *;refine nm ?_;dsimp only;refine⟨_,rfl,Yl _,λt0 ht0=>?_⟩;have u2:=same_at (o:=.tup []) ht0
  refine⟨w,t0,n,ps,[],rfl,hW.same (u1.trans u2),hG,SqT.of Zz1,λz hz=>(by cases hz),λm0 H2 s2 hm0 hm2=>?_⟩;have u3:=u2.trans s2
  have md0:m0≠md:=YR (Zb (u2 _ _ m1) hm0);have m2:=u3 _ _ m1
  have t2:=u1.trans u3;have hmd0:H md=none:=hmd
  refine nm ?_;dsimp only;refine⟨_,rfl,b,ls,rfl,t2.seq hS,by lia,λLs hLa hLm lA hlA=>?_⟩;have u4:=same_at (o:=.lst (IL Ls)) hlA
  have lmd:lA≠md:=YR (Zb m2 hlA);have hl4:=Zz1 (H:=H2) (a:=lA) (o:=.lst (IL Ls))
  have m4:=u4 _ _ m2;have hm4:=u4 _ _ hm2
  have t4:=t2.trans u4;show ∃ _,_
  refine⟨lA,rfl,⟨_,SqL.of hl4⟩,?_⟩;generalize upd H2 lA (.lst (IL Ls))=H4 at *;refine ZC1 (K:=K) (a:=lA) (xs:=IL Ls) (λj σ H5=>∃(m:Addr) (S:Ac) (ys:List V) (v4 v5 v6 v7 v8 v9:Option V),σ=[some (.ref w),some (.ref b),some (.ref md),some (.ref m),v4,v5,v6,v7,v8,v9]/\Same H H5/\m≠md/\H5 m=some (.lst (IL (pms n.toNat (Zz7 ps S))))/\(∀ z,z∈S↔(0<=z/\z<(ps.length:Int))/\lnz ls z∈Ls.take j)/\H5 md=some (.lst ys)/\PairsV H5 ys (mdT n.toNat ps ls λi=>ls.getD i 0∈Ls.take j)/\H5 lA=some (.lst (IL Ls)))
   ⟨m0,[],xs,none,none,none,none,none,none,rfl,t4,md0,hm4,λz=>⟨λh=>(by cases h),λh=>(by cases h.2)⟩,m4,(by rw[Zk9 λi _ h=>(by cases h)];exact h3.same t4),hl4⟩ (λj σ H5 _ h=>by obtain⟨_,_,_,_,_,_,_,_,_,_,_,_,_,_,_,_,e⟩:=h;exact SqL.of e) ?_ ?_
  .rintro j v σ H5 hj ⟨m,S,ys,v4,v5,v6,v7,v8,v9,rfl,s5,mmd,hm5,hSm,hy5,hY5,hl5⟩;obtain⟨x,rfl,hx⟩:=Zb1 hj;refine nm ?_;dsimp only;refine⟨_,rfl,b,rfl,⟨_,s5.seq hS⟩,Zb8 (K:=K) (a:=b) (xs:=IL ls) (λi zs H6=>Same H5 H6/\zs=IL (lvl ls x i)) ⟨Same.refl _,rfl⟩ (Zr (by rw[Zz5];lia)) (λi zs H6 hi ⟨e,ez⟩=>⟨(s5.trans e).seq hS,by rw[ez,Zz5];exact(Zz78 ls x i).len⟩) ?_ ?_⟩
   .rintro i v zs H6 pt hpt hi ⟨s6,rfl⟩ SS hSS;obtain⟨y,rfl,hy⟩:=Zb1 hi;have s7:=same_at (o:=.tup [.int i,.int y]) hpt
    refine⟨pt,_,rfl,SqT.of Zz1,rfl,_,_,rfl,_,_,rfl,rfl,?_⟩;have s67:=s6.trans s7
    have ey:ls.getD i 0=y:=getD_of hy;refine⟨_,rfl,_,rfl,rfl,_,rfl,?_⟩;rw[Zw];refine itd2 (λhe=>?_) (λhe=>?_)
    .refine⟨_,rfl,hSS _ _ ⟨s67,?_⟩⟩;rw[ZZ5,if_pos (ey.trans he)];exact(Zd1 ..).symm
    .refine hSS _ _ ⟨s67,?_⟩;rw[ZZ5,if_neg (λh=>he (ey.symm.trans h)),YO]
   rintro zs H6 ⟨s6,rfl⟩ lv hlv;rw[Zz5,hl];have s7:=same_at (o:=.lst (IL (lvl ls x ps.length))) hlv
   have hv7:=Zz1 (H:=H6) (a:=lv) (o:=.lst (IL (lvl ls x ps.length)));have hy6:=s6 _ _ hy5
   have lvmd:lv≠md:=YR (Zb hy6 hlv);have s57:=s6.trans s7
   generalize upd H6 lv (.lst (IL (lvl ls x ps.length)))=H7 at *;refine nm ?_;dsimp only;obtain⟨up1,up2,up3⟩:=Zl9 hG hl hLa hLm hx hSm;have at1:=Zm9 hG hl hLa hLm hx hSm
   refine⟨_,rfl,_,rfl,_,rfl,w,m,lv,n,ps,_,false,lvl ls x ps.length,rfl,(hW.same s5).same s57,hG,s57 _ _ hm5,Zo _ _,SqL.of hv7,(Zz78 ls x ps.length).all,λm' H8 s8 hm' hm8=>?_⟩;rw[up1]at hm8;have hy7:=s57 _ _ hy5
   have hy8:=s8 _ _ hy7;have m'md:m'≠md:=by
    rcases hm' with e | e
    .rw[e];exact mmd
    .exact YR (Zb hy7 e)
   have s58:=s57.trans s8;have hm58:=s58 _ _ hm5
   refine nm ?_;dsimp only;refine⟨_,rfl,_,rfl,m,m',rfl,⟨_,_,SqL.of hm58,SqL.of hm8⟩,Zf11 (K:=K) (a:=m) (b:=m') (xs:=IL (pms n.toNat (Zz7 ps S))) (ys:=IL (pms n.toNat (Zz7 ps (S++lvl ls x ps.length)))) (λi zs H9=>Same H8 H9/\i<=n.toNat/\zs=IL ((List.range i).map (spt n.toNat ps ls x))) ⟨Same.refl _,Yl _,rfl⟩ (by rw[Zz5,Zz5,Zo,Zo]) (Zr (by rw[Zz5,Zo];lia))
    (λi zs H9 hi ⟨e,hi2,ez⟩=>⟨SqL.of (e _ _ hm58),SqL.of (e _ _ hm8),by rw[ez,Zz5,Yc,YK];exact Yy6 _⟩) ?_ ?_⟩
   .rintro i u v zs H9 pt hpt hu hv ⟨s9,hil,rfl⟩ SS hSS;obtain⟨a1,rfl,ha1⟩:=Zb1 hu;obtain⟨b1,rfl,hb1⟩:=Zb1 hv;have hil':i<n.toNat:=by have:=(Yy3.mp ha1).1;rwa[Zo]at this
    have s10:=same_at (o:=.tup [.int a1,.int b1]) hpt;refine⟨pt,_,rfl,SqT.of Zz1,rfl,_,_,rfl,_,_,rfl,rfl,?_⟩;have ea:mk (mA n.toNat ps ls x) i=a1:=by rw[<- at1];unfold mk;exact getD_of ha1
    have eb:mk (mB n.toNat ps ls x) i=b1:=by rw[<- up2];unfold mk;exact getD_of hb1
    have es:∀ y:Int,(if a1=b1 then 0 else a1)=y->IL ((List.range i).map (spt n.toNat ps ls x))++[V.int y]=IL ((List.range (i+1)).map (spt n.toNat ps ls x)):=λy hy=>by
     rw[Y0L,YC];show _=IL (_++[spt n.toNat ps ls x i])
     unfold spt;rw[ea,eb,hy];exact(Zd1 ..).symm
    refine⟨_,rfl,_,rfl,rfl,_,rfl,?_⟩;rw[Zw];refine itd2 (λhe=>?_) (λhe=>?_)
    .exact hSS _ _ ⟨s9.trans s10,hil',es 0 (if_pos he)⟩
    .exact⟨_,rfl,hSS _ _ ⟨s9.trans s10,hil',es a1 (if_neg he)⟩⟩
   rintro zs H9 ⟨s9,_,rfl⟩ sp hsp;rw[Zz5,Zo];have s10:=same_at (o:=.lst (IL ((List.range n.toNat).map (spt n.toNat ps ls x)))) hsp
   have hsp10:=Zz1 (H:=H9) (a:=sp) (o:=.lst (IL ((List.range n.toNat).map (spt n.toNat ps ls x))));have hy9:=s9 _ _ hy8
   have spmd:sp≠md:=YR (Zb hy9 hsp);have s510:=s58.trans (s9.trans s10)
   have s810:=s9.trans s10;generalize upd H9 sp (.lst (IL ((List.range n.toNat).map (spt n.toNat ps ls x))))=H10 at *;have hm10:=s810 _ _ hm8
   have hv10:=s810 _ _ (s8 _ _ hv7);have hy10:=s810 _ _ hy8
   have hY10:=hY5.same s510;have hl10:=s510 _ _ hl5
   have t10:=s5.trans s510;refine nm ?_;dsimp only;refine⟨_,rfl,lv,rfl,⟨_,SqL.of hv10⟩,ZC1 (K:=K) (a:=lv) (xs:=IL (lvl ls x ps.length)) (λk σ H11=>∃(ys:List V) (v8 v9:Option V),σ=[some (.ref w),some (.ref b),some (.ref md),some (.ref m),some (.int x),some (.ref lv),some (.ref m'),some (.ref sp),v8,v9]/\(∀ a o,a≠md->H10 a=some o->H11 a=some o)/\H11 md=some (.lst ys)/\PairsV H11 ys (mdT n.toNat ps ls λi=>ls.getD i 0∈Ls.take j\/(i:Int)∈(lvl ls x ps.length).take k)) ⟨ys,_,_,rfl,λ_ _ _ h=>h,hy10,(by rwa[Zc4 (q:=λi=>ls.getD i 0∈Ls.take j) λi _=>⟨λh=>h.elim id λh=>(by cases h),.inl⟩])⟩ (λk σ H11 _ ⟨_,_,_,_,e,_⟩=>SqL.of (e _ _ lvmd hv10)) ?_ ?_⟩
   .rintro k v σ H11 hk ⟨ys,v8,v9,rfl,kp,hy11,hY11⟩;obtain⟨z,rfl,hz⟩:=Zb1 hk;obtain⟨zb,zl⟩:=lvl_mem.mp (Yy8 hz);have t11:Same H H11:=λa o e=>kp a o (Zb e hmd0) (t10 a o e)
    obtain⟨p,hp⟩:∃ p,ps[z.toNat]?=some p:=⟨_,Yy2 (by lia)⟩;obtain⟨vv,hvv,tt,rfl,htt⟩:=h3.2 z.toNat p hp;obtain⟨e1,e2,e3,e4⟩:=g4 p (Yy8 hp);have ed:ps.getD z.toNat (0,0)=p:=getD_of hp
    have hsp11:=kp _ _ spmd hsp10;have ht11:=t11 _ _ htt
    refine nm ?_;dsimp only;refine⟨_,rfl,w,_,dx,_,_,rfl,t11 _ _ h1,T.cl_Web,T.n_Web_ties,Zr1 _ _,_,rfl,tl,xs,z,.ref tt,rfl,rfl,SqL.of (t11 _ _ h2),ZN (n:=z.toNat) (by lia) hvv,?_⟩;refine nm ?_;dsimp only;have at_:∀ y:Int,0<=y->y<n->atI (IL ((List.range n.toNat).map (spt n.toNat ps ls x))) y=some (.int (spt n.toNat ps ls x y.toNat)):=λy y0 y1=>ZN (n:=y.toNat) (by lia) (by rw[Yp,Yp,Y0t (by grind)];rfl)
    have c0:atI ([.int p.1,.int p.2]:List V) 0=some (.int p.1):=rfl;have c1:atI ([.int p.1,.int p.2]:List V) 1=some (.int p.2):=rfl
    refine⟨_,rfl,_,rfl,tt,_,0,_,rfl,rfl,SqT.of ht11,c0,sp,_,p.1,_,rfl,rfl,SqL.of hsp11,at_ p.1 e1 e2,_,rfl,_,rfl,tt,_,1,_,rfl,rfl,SqT.of ht11,c1,sp,_,p.2,_,rfl,rfl,SqL.of hsp11,at_ p.2 e3 e4,(by show 2<=sizeLine;decide),λtA htA=>?_⟩;have s12:=same_at (o:=.tup [.int (spt n.toNat ps ls x p.1.toNat),.int (spt n.toNat ps ls x p.2.toNat)]) htA
    have hy12:=s12 _ _ hy11;have hA12:=Zz1 (H:=H11) (a:=tA) (o:=.tup [.int (spt n.toNat ps ls x p.1.toNat),.int (spt n.toNat ps ls x p.2.toNat)])
    have tmd:tA≠md:=YR (Zb hy11 htA);have hY12:=hY11.same s12
    have yl:ys.length=ps.length:=by rw[hY12.1,Zz611]
    refine⟨_,rfl,_,rfl,md,_,_,z.toNat,rfl,rfl,hy12,ZU12 zb.1 (by lia),?_⟩;refine⟨ys.set z.toNat (.ref tA),some (.int z),some (.ref tt),rfl,λa o ha e=>?_,Zz1,?_⟩
    .rw[Zz9 ha];exact s12 _ _ (kp a o ha e)
    .have e5:(spt n.toNat ps ls x p.1.toNat,spt n.toNat ps ls x p.2.toNat)=cwP n.toNat ps ls z.toNat:=by unfold cwP;rw[ed,show ls.getD z.toNat 0=x from zl]
     have hP:=(hY12.mut (l:=md) (zs:=ys.set z.toNat (.ref tA)) hy12).set z.toNat (v:=.ref tA) (p:=(spt n.toNat ps ls x p.1.toNat,spt n.toNat ps ls x p.2.toNat)) ⟨tA,rfl,by rwa[Zz9 tmd]⟩;rw[e5,Zz511 (q:=λi=>ls.getD i 0∈Ls.take j\/(i:Int)∈(lvl ls x ps.length).take (k+1)) λi _=>?_]at hP
     .exact hP
     .rw[YS,hz];show _\/(i:Int)∈(lvl ls x ps.length).take k++[z]↔_
      rw[Ya,Yy1,or_assoc]
      have:(i:Int)=z↔i=z.toNat:=by grind
      rw[this]
   rintro σ H11 ⟨ys',v8,v9,rfl,kp,hy11,hY11⟩;rw[Zz5,QP]at hY11;have t11:Same H H11:=λa o e=>kp a o (Zb e hmd0) (t10 a o e)
   refine⟨_,rfl,?_⟩;refine nm ?_;refine⟨m',S++lvl ls x ps.length,ys',_,_,_,_,_,_,rfl,t11,m'md,kp _ _ m'md hm10,up3,hy11,?_,kp _ _ lmd hl10⟩;rw[Zc4 (q:=λi=>ls.getD i 0∈Ls.take (j+1)) λi hi=>?_]at hY11
   .exact hY11
   .rw[YS,hx];show _↔ls.getD i 0∈Ls.take j++[x]
    rw[Ya,Yy1,lvl_mem];have e:lnz ls (i:Int)=ls.getD i 0:=by unfold lnz;rw[Yw]
    rw[e];constructor
    .rintro(h | h)
     .exact .inl h
     .exact .inr h.2
    .rintro(h | h)
     .exact .inl h
     .exact .inr ⟨⟨by lia,by lia⟩,h⟩
  rintro σ H5 ⟨m,S,ys,v4,v5,v6,v7,v8,v9,rfl,s5,mmd,hm5,hSm,hy5,hY5,hl5⟩;rw[Zz5,QP,Zz711 λi hi=>(hLm _).mpr (by rw[Yy7,Yy2 (show i<ls.length by lia)];exact Y0R _)]at hY5;refine⟨_,rfl,w,_,dx,_,_,rfl,s5 _ _ h1,T.cl_Web,T.n_Web_places,Zz91 _ _,_,rfl,λw2 dx2 nx2 ndx2 nex2=>?_⟩;have v2:Same H5 (upd (upd H5 dx2 (.own w2)) w2 (.ins t.A_Web dx2 [])):=ZW (same_at ndx2) (by rwa[Zz9 (YR nex2)])
  refine⟨w2,dx2,n,md,false,ys,_,rfl,Zz1,λo=>(Zs nx2 v2).seq (SqL.of hy5),hY5.same v2,Zc3 hG hl,λH6 hW6 k6=>⟨rfl,?_⟩⟩;have v3:Same H5 H6:=λb o e=>k6 b o (v2 b o e) (Zb e nx2)
  exact q hl w2 H6 (s5.trans v3) hW6
def spZz(K:Ad)(C R B:Addr):Sp:=λvs H Q E=>∃(w b:Addr) (n:Int) (ps:Aa) (ls:Ac),vs=[.ref w,.ref b]/\WebAt C H w n ps/\Zy n ps/\SqL K H b (IL ls) /\
 (ls.length=ps.length->(∃ U,Zf n (cwT n.toNat ps ls) U)->∀(v:V) (H':Hp),Same H H'->Q v H') /\
 (ls.length=ps.length->(∀ W,¬ Zf n (cwT n.toNat ps ls) W)->∀ H':Hp,Same H H'->E (.ref B) none H')/\(ls.length≠ps.length->E (.ref R) none H)
theorem scZz:FnScope ["web","lengths"] ["web","lengths"] (Zz4 sZz):=⟨rfl,rfl,rfl,by decide +kernel,rfl,by decide +kernel,by decide +kernel⟩
theorem okZz (T:Txt K mg t):FnOk P w K mg base (CXW P w) 8 t.aZz t.dZz ["web","lengths"] (spZz K t.A_Web t.A_BadRow t.A_Parted):=by
 refine T.fZz.okX scZz (λvs H Q E h=>?_) (λcdv A outer s H vs Q E hr h=>?_)
 .obtain⟨w,b,n,ps,ls,rfl,_⟩:=h;rfl
 .obtain⟨w,b,n,ps,ls,rfl,hW,hG,hS,q,qp,qe⟩:=h;refine⟨_,(Zz6 (Zk (Za (okZr T) (hr.mono (by decide)) rfl T.mZr T.fZr.kp T.bZr .nil pxs (Zz0 (Za (okZy T) (hr.mono (by decide)) rfl T.mZy T.fZy.kp T.bZy .nil pxs (Zz0 (pv 0) (Zz0 (pv 1) Zz3))) Zz3)))),?_⟩;refine⟨_,rfl,_,rfl,w,b,n,ps,ls,rfl,hW,hG,hS,λhl w2 H1 s1 hW1=>?_,qe⟩;have hC:=Zc3 hG hl
  refine⟨w2,n,_,rfl,hW1,hC,λhf r H2 s2 hr=>?_,λhf H2 s2=>?_⟩
  .exact q hl ⟨_,Zg6 hC hf⟩ _ H2 (s1.trans s2)
  .refine qp hl (λW hV=>?_) H2 (s1.trans s2)
   have:=(ZG9 hC hV).2.1
   lia
def spZA(K:Ad)(C R B:Addr):Sp:=λvs H Q E=>∃(w a b:Addr) (n:Int) (ps:Aa) (kd ke:Bool) (ls ts:Ac),vs=[.ref w,.ref a,.ref b]/\WebAt C H w n ps/\Zy n ps/\SqK kd K H a (IL ls)/\SqK ke K H b (IL ts)/\¬ Zf n ps ts /\
 (ls.length≠ps.length->E (.ref R) none H)/\(ls.length=ps.length->∀ H':Hp,Same H H'->E (.ref B) none H')
theorem scZA:FnScope ["web","lengths","tree"] ["web","lengths","tree"] (Zz4 sZA):=⟨rfl,rfl,rfl,by decide +kernel,rfl,by decide +kernel,by decide +kernel⟩
theorem okZA (T:Txt K mg t):FnOk P w K mg base (CXW P w) 9 t.aZA t.dZA ["web","lengths","tree"] (spZA K t.A_Web t.A_BadRow t.A_NoTree):=by
 refine T.fZA.okX scZA (λvs H Q E h=>?_) (λcdv A outer s H vs Q E hr h=>?_)
 .obtain⟨w,a,b,n,ps,kd,ke,ls,ts,rfl,_⟩:=h;rfl
 .obtain⟨w,a,b,n,ps,kd,ke,ls,ts,rfl,hW,hG,hA,hB,hno,q1,q2⟩:=h;refine⟨_,(Zz2 (ZC (Za (okZ9 T) (hr.mono (by decide)) rfl T.mZ9 T.fZ9.kp T.bZ9 .nil pxs (Zz0 (pv 0) (Zz0 (pv 1) Zz3))))
   (Zz6 (Zk (ZP4 rfl (sc0:=Zz4 sZA) (N0:=["web","lengths","tree"]) (N':=["out","into","lengths"]) (o:=2) (fr:=[1]) ⟨rfl,by decide +kernel,by decide +kernel,by decide +kernel,rfl,by decide +kernel⟩ (ZY K (Za (okZt T) (hr.mono (by decide)) rfl T.mZt T.fZt.kp T.bZt .nil pxs (Zz0 (pv 0) (Zz0 (pv 2) Zz3)))) (Zz22 (ZH (by decide) (ZH (by decide) Zz32))) (λ_ _ _ _=>(Zz51 (n:=2) K rfl (Zl (Zc (i:=0) (show List.Nodup (["out","into","lengths"]:List Str) by decide +kernel) rfl (Or.inl rfl)) (Zl (Zc (i:=1) (show List.Nodup (["out","into","lengths"]:List Str) by decide +kernel) rfl (Or.inl rfl)) Zz41)))) (λ_ _ _ _=>(ZY2 (Zi ZM5 (ZL (Zg4 K) (pv 2) (pv 1) (λ_ _=>rfl)) (ZL (Zg4 K) (pv 2) (pv 0) (λ_ _=>rfl)) (Zq _)))) (λ_ _ _ _=>(ZE (Zz0 (pv 0) (Zz0 (pv 1) Zz3)))))))),?_⟩
  refine⟨_,rfl,_,rfl,w,a,n,ps,kd,ls,rfl,hW,hA,λhl=>?_,q1⟩;exact⟨_,rfl,_,rfl,w,b,n,ps,ke,ts,rfl,hW,hG,hB,hno,q2 hl⟩
def spZB(K:Ad)(C R B:Addr):Sp:=λvs H Q E=>∃(w a b:Addr) (n:Int) (ps:Aa) (kd ke:Bool) (ls ts:Ac),vs=[.ref w,.ref a,.ref b]/\WebAt C H w n ps/\Zy n ps/\SqK kd K H a (IL ls)/\SqK ke K H b (IL ts)/\¬ Zf n ps ts /\
 (ls.length≠ps.length->E (.ref R) none H)/\(ls.length=ps.length->∀ H':Hp,Same H H'->E (.ref B) none H')
theorem scZB:FnScope ["web","lengths","tree"] ["web","lengths","tree"] (Zz4 sZB):=⟨rfl,rfl,rfl,by decide +kernel,rfl,by decide +kernel,by decide +kernel⟩
theorem okZB (T:Txt K mg t):FnOk P w K mg base (CXW P w) 10 t.aZB t.dZB ["web","lengths","tree"] (spZB K t.A_Web t.A_BadRow t.A_NoTree):=by
 refine T.fZB.okX scZB (λvs H Q E h=>?_) (λcdv A outer s H vs Q E hr h=>?_)
 .obtain⟨w,a,b,n,ps,kd,ke,ls,ts,rfl,_⟩:=h;rfl
 .obtain⟨w,a,b,n,ps,kd,ke,ls,ts,rfl,hW,hG,hA,hB,hno,q1,q2⟩:=h;refine⟨_,(Zz6 (Zk (Zz64 Zz33 (Zd (Zh K) (by rfl) T.n_len Boot.«len» (Zz0 (Za (okZA T) (hr.mono (by decide)) rfl T.mZA T.fZA.kp T.bZA .nil pxs (Zz0 (pv 0) (Zz0 (pv 1) (Zz0 (pv 2) Zz3)))) Zz3)) Zz8 (Zq _)))),?_⟩;exact⟨_,rfl,_,rfl,_,rfl,w,a,b,n,ps,kd,ke,ls,ts,rfl,hW,hG,hA,hB,hno,q1,q2⟩
def spZC(K:Ad)(C R:Addr):Sp:=λvs H Q E=>∃(w b:Addr) (n:Int) (ps:Aa) (ls:Ac),vs=[.ref w,.ref b]/\WebAt C H w n ps/\Zy n ps/\SqL K H b (IL ls) /\
 (ls.length=ps.length->∀(c:Nat) (H':Hp),Same H H'->Q (.int c) H')/\(ls.length≠ps.length->E (.ref R) none H)
theorem scZC:FnScope ["web","lengths"] ["web","lengths"] (Zz4 sZC):=⟨rfl,rfl,rfl,by decide +kernel,rfl,by decide +kernel,by decide +kernel⟩
theorem okZC (T:Txt K mg t):FnOk P w K mg base (CXW P w) 8 t.aZC t.dZC ["web","lengths"] (spZC K t.A_Web t.A_BadRow):=by
 refine T.fZC.okX scZC (λvs H Q E h=>?_) (λcdv A outer s H vs Q E hr h=>?_)
 .obtain⟨w,b,n,ps,ls,rfl,_⟩:=h;rfl
 .obtain⟨w,b,n,ps,ls,rfl,hW,hG,hS,q,qe⟩:=h;refine⟨_,(Zz6 (Zk (Za (okZm T) (hr.mono (by decide)) rfl T.mZm T.fZm.kp T.bZm .nil ZJ (Zz0 (Za (okZy T) (hr.mono (by decide)) rfl T.mZy T.fZy.kp T.bZy .nil pxs (Zz0 (pv 0) (Zz0 (pv 1) Zz3))) Zz3)))),?_⟩;refine⟨_,rfl,_,rfl,w,b,n,ps,ls,rfl,hW,hG,hS,λhl w2 H1 s1 hW1=>?_,qe⟩;exact⟨w2,n,_,rfl,hW1,Zc3 hG hl,λc H2 hc s2=>q hl c H2 (s1.trans s2)⟩
def spZD(K:Ad)(C R N:Addr):Sp:=λvs H Q E=>∃(w b:Addr) (n:Int) (ps:Aa) (ls:Ac) (z:Int),vs=[.ref w,.ref b,.int z]/\WebAt C H w n ps/\Zy n ps/\SqL K H b (IL ls)/\-(10 ^ 70)<z/\z<10 ^ 70/\(ls.length=ps.length->∀ c:Nat,TC n (cwT n.toNat ps ls) c->0<=z->(c:Int)<=z) /\
 (ls.length=ps.length->∀ H':Hp,Same H H'->E (.ref N) none H')/\(ls.length≠ps.length->E (.ref R) none H)
theorem scZD:FnScope ["web","lengths","number"] ["web","lengths","number"] (Zz4 sZD):=⟨rfl,rfl,rfl,by decide +kernel,rfl,by decide +kernel,by decide +kernel⟩
theorem okZD (T:Txt K mg t):FnOk P w K mg base (CXW P w) 10 t.aZD t.dZD ["web","lengths","number"] (spZD K t.A_Web t.A_BadRow t.A_NoSuch):=by
 refine T.fZD.okX scZD (λvs H Q E h=>?_) (λcdv A outer s H vs Q E hr h=>?_)
 .obtain⟨w,b,n,ps,ls,z,rfl,_⟩:=h;rfl
 .obtain⟨w,b,n,ps,ls,z,rfl,hW,hG,hS,z0,z1,hno,q,qe⟩:=h;refine⟨_,(Zz6 (Zk (Za (okZu T) (hr.mono (by decide)) rfl T.mZu T.fZu.kp T.bZu .nil pxs (Zz0 (Za (okZy T) (hr.mono (by decide)) rfl T.mZy T.fZy.kp T.bZy .nil pxs (Zz0 (pv 0) (Zz0 (pv 1) Zz3))) (Zz0 (pv 2) Zz3))))),?_⟩;refine⟨_,rfl,_,rfl,w,b,n,ps,ls,rfl,hW,hG,hS,λhl w2 H1 s1 hW1=>?_,qe⟩;exact⟨_,rfl,w2,n,_,z,rfl,hW1,Zc3 hG hl,z0,z1,hno hl,λH2 s2=>q hl H2 (s1.trans s2)⟩
def spZE(K:Ad)(C R B:Addr):Sp:=λvs H Q E=>∃(w b a:Addr) (n:Int) (ps:Aa) (ls:Ac) (kd:Bool) (U:Ac),vs=[.ref w,.ref b,.ref a]/\WebAt C H w n ps/\Zy n ps/\SqL K H b (IL ls)/\SqK kd K H a (IL U)/\¬ Zf n (cwT n.toNat ps ls) U /\
 (ls.length=ps.length->∀ H':Hp,Same H H'->E (.ref B) none H')/\(ls.length≠ps.length->E (.ref R) none H)
theorem scZE:FnScope ["web","lengths","tree"] ["web","lengths","tree"] (Zz4 sZE):=⟨rfl,rfl,rfl,by decide +kernel,rfl,by decide +kernel,by decide +kernel⟩
theorem okZE (T:Txt K mg t):FnOk P w K mg base (CXW P w) 10 t.aZE t.dZE ["web","lengths","tree"] (spZE K t.A_Web t.A_BadRow t.A_NoTree):=by
 refine T.fZE.okX scZE (λvs H Q E h=>?_) (λcdv A outer s H vs Q E hr h=>?_)
 .obtain⟨w,b,a,n,ps,ls,kd,U,rfl,_⟩:=h;rfl
 .obtain⟨w,b,a,n,ps,ls,kd,U,rfl,hW,hG,hS,hA,hno,q,qe⟩:=h;refine⟨_,(Zz6 (Zk (Za (okZw T) (hr.mono (by decide)) rfl T.mZw T.fZw.kp T.bZw .nil pxs (Zz0 (Za (okZy T) (hr.mono (by decide)) rfl T.mZy T.fZy.kp T.bZy .nil pxs (Zz0 (pv 0) (Zz0 (pv 1) Zz3))) (Zz0 (pv 2) Zz3))))),?_⟩;refine⟨_,rfl,_,rfl,w,b,n,ps,ls,rfl,hW,hG,hS,λhl w2 H1 s1 hW1=>?_,qe⟩;exact⟨_,rfl,w2,a,n,_,kd,U,rfl,hW1,Zc3 hG hl,hA.same s1,hno,λH2 s2=>q hl H2 (s1.trans s2)⟩
def grO(n:Int)(ps:Aa)(os ins outs:Ac):Ac:=grw n.toNat ps (ins++os.filter λz=>decide (z∉outs))
def spZF(K:Ad)(C:Addr):Sp:=λvs H Q _=>∃(w a o i u:Addr) (n:Int) (ps:Aa) (kd:Bool) (ls os ins outs:Ac),vs=[.ref w,.ref a,.ref o,.ref i,.ref u]/\WebAt C H w n ps/\Zy n ps/\SqK kd K H a (IL ls)/\ls.length=ps.length/\SqL K H o (IL os)/\os.length<=100/\os.Nodup/\(∀ z∈os,0<=z/\z<(ps.length:Int))/\SqT K H i (IL ins)/\SqT K H u (IL outs)/\ins.length<=100/\outs.length<=10000/\(∀ z∈ins,0<=z/\z<(ps.length:Int))/\(grO n ps os ins outs).Nodup /\
 (¬ ((grO n ps os ins outs).take ins.length=ins/\¬ ((grO n ps os ins outs).length:Int)<n - 1)->∀(r:Addr) (H':Hp),Same H H'->H r=none->H' r=some (.lst [])->Q (.ref r) H') /\
 ((grO n ps os ins outs).take ins.length=ins->¬ ((grO n ps os ins outs).length:Int)<n - 1->∀(ms:Ac) (r tp tr:Addr) (H':Hp),ms.Perm (grO n ps os ins outs)->ms.Pairwise (·<=·)->Same H H'->H r=none->H tp=none->H' r=some (.lst [.ref tp])->H' tp=some (.tup [.int (smW ls ms),.ref tr,.ref i,.ref u])->H' tr=some (.tup (IL ms))->Q (.ref r) H')
theorem scZF:FnScope ["web","lengths","order","inside","outside","tree"] ["web","lengths","order","inside","outside"] (Zz4 sZF):=⟨rfl,rfl,rfl,by decide +kernel,rfl,by decide +kernel,by decide +kernel⟩
theorem okZF (T:Txt K mg t):FnOk P w K mg base CX0 5 t.aZF t.dZF ["web","lengths","order","inside","outside"] (spZF K t.A_Web):=by
 refine T.fZF.ok scZF (λvs H Q E h=>?_) (λcdv A outer s H vs Q E hr h=>?_)
 .obtain⟨w,a,o,i,u,n,ps,kd,ls,os,ins,outs,rfl,_⟩:=h;rfl
 .obtain⟨w,a,o,i,u,n,ps,kd,ls,os,ins,outs,rfl,hW,hG,hA,hll,hO,hol,hon,hoz,hI,hU,hil,hul,hiz,hgn,q0,q1⟩:=h;refine⟨_,(Zz2 (Ze (i:=5) scZF.nd rfl (Or.inl rfl) (Za (okZq T) (hr.mono (by decide)) rfl T.mZq T.fZq.kp T.bZq .nil ZJ (Zz0 (pv 0) (Zz0 (pv 3) (Zz0 (ZP4 rfl (sc0:=Zz4 sZF) (N0:=["web","lengths","order","inside","outside","tree"]) (N':=["tie","outside"]) (o:=1) (fr:=[4]) ⟨rfl,by decide +kernel,by decide +kernel,by decide +kernel,rfl,by decide +kernel⟩ (ZY K (pv 2)) (ZK (by decide)) (λ_ _ _ _=>(Zc (i:=0) (show List.Nodup (["tie","outside"]:List Str) by decide +kernel) rfl (Or.inl rfl))) (λ_ _ _ _=>(ZY2 (Zi (Zz84 K) (pv 0) (pv 1) rfl))) (λ_ _ _ _=>(pv 0))) Zz3)))))
   (Zz2 (Ze1 (Zi ZW10 (pv 5) Zc7 (Zq _))
   (Zz6 (Zk (Zz Zz3)))
   Zm)
   (Zz6 (Zk (Zz (Zz0 (ZE (Zz0 (Za (okZx T) (hr.mono (by decide)) rfl T.mZx T.fZx.kp T.bZx .nil Za13 (Zz0 (pv 0) (Zz0 (pv 1) (Zz0 (pv 5) Zz3)))) (Zz0 (pv 5) (Zz0 (pv 3) (Zz0 (pv 4) Zz3))))) Zz3)))))),?_⟩
  have one:1<=sizeLine:=by decide
  have four:4<=sizeLine:=by decide
  have fl:∀ l:Ac,(l.filter λz=>decide (z∉outs)).length<=l.length:=λl=>Y1C _ _;refine⟨_,rfl,_,rfl,_,rfl,o,rfl,⟨_,hO⟩,Zz83 (K:=K) (a:=o) (xs:=IL os) (λj ys H2=>H2=H/\j<=os.length/\ys=IL ((os.take j).filter λz=>decide (z∉outs))) ⟨rfl,Yl _,rfl⟩ (Zr (by rw[Zz5];lia)) (λj ys H2 hj ⟨e,hj2,ey⟩=>⟨e ▸ hO,by rw[ey,Zz5];exact YD (fl _) (by rw[YI];lia)⟩) ?_ ?_⟩
  .rintro j v ys H2 hj ⟨rfl,hjl,rfl⟩ S hSS;obtain⟨z,rfl,hz⟩:=Zb1 hj;have hj':j<os.length:=(Yy3.mp hz).1
   refine nm ?_;refine⟨_,rfl,_,rfl,u,_,rfl,.inr hU,rfl,Zr4 outs,_,rfl,?_⟩;rw[Zb6];have et:os.take (j+1)=os.take j++[z]:=by rw[YS,hz];rfl
   refine itn2 (λhc=>?_) (λhc=>?_)
   .refine hSS _ _ ⟨rfl,hj',?_⟩;rw[et,Yy04,Y1p (by simp[hc]),Yy13,YO]
   .refine⟨_,rfl,hSS _ _ ⟨rfl,hj',?_⟩⟩;rw[et,Yy04,Y1o (by simp[hc]),Yy13,Zd1]
  rintro ys H2 ⟨rfl,_,rfl⟩ d hd;rw[Zz5,QP];have s1:=same_at (o:=.lst (IL (os.filter λz=>decide (z∉outs)))) hd
  have h1:(upd H2 d (.lst (IL (os.filter λz=>decide (z∉outs))))) d=some (.lst (IL (os.filter λz=>decide (z∉outs)))):=Zz1;generalize upd H2 d (.lst (IL (os.filter λz=>decide (z∉outs))))=H1 at *;have hall:∀ z∈ins++os.filter λz=>decide (z∉outs),0<=z/\z<(ps.length:Int):=λz hz=>by
   rcases Ya.mp hz with hz | hz
   .exact hiz z hz
   .exact hoz z (Yn.mp hz).1
  refine⟨w,i,d,n,ps,true,false,ins,os.filter λz=>decide (z∉outs),rfl,hW.same s1,hG,SqK.same (k:=true) s1 hI,SqL.of h1,by lia,YD (fl os) (by lia),hall,λhno H3 s3=>?_,λh2 h3 r ms H3 hp hs s3 hr0 hr3=>?_⟩
  .refine nm ?_;dsimp only;refine⟨_,rfl,rfl,_,rfl,?_⟩;refine itd rfl ?_;refine⟨Yl _,λr hr=>?_⟩;refine q0 (λ⟨h2,h3⟩=>?_) r _ ((s1.trans s3).trans (same_at hr)) ((s1.trans s3).free hr) Zz1;rcases hno with h | h
   .exact h h2
   .exact h3 h
  .refine nm ?_;dsimp only;refine⟨_,rfl,rfl,_,rfl,?_⟩;refine itdn (λz=>by cases z) ?_;have s13:=s1.trans s3
   have hsub:∀ z∈ms,z∈grO n ps os ins outs:=λz hz=>hp.mem_iff.mp hz;have hset:IsSet ps.length ms:=isSet_iff.mpr ⟨λz hz=>Zl8 hall z (hsub z hz),?_⟩
   .refine⟨_,rfl,_,rfl,_,rfl,w,a,r,n,ps,kd,true,ls,ms,rfl,hW.same s13,hG.2.2.1,hA.same s13,SqT.of hr3,λ_ _ H4 s4=>?_,λh=>absurd hll h,λ_ h=>absurd hset h⟩;refine⟨_,rfl,_,rfl,_,rfl,four,λtp htp=>?_⟩;have s14:=s13.trans s4
    have u5:=same_at (o:=.tup [.int (smW ls ms),.ref r,.ref i,.ref u]) htp;refine⟨one,λl hl=>?_⟩;have u6:=same_at (o:=.lst [.ref tp]) hl
    exact q1 h2 h3 ms l tp r _ hp hs ((s14.trans u5).trans u6) ((s14.trans u5).free hl) (s14.free htp) Zz1 (u6 _ _ Zz1) ((u5.trans u6) _ _ (s4 _ _ hr3))
   .have hnd:ms.Nodup:=hp.nodup_iff.mpr hgn;exact(hs.and hnd).imp λ⟨x,y⟩=>by lia
def EV(K:Ad)(H:Hp)(ls:Ac)(v:V)(E:Ent):Prop:=∃ tp tr ti to:Addr,v=.ref tp/\H tp=some (.tup [.int (sumL ls E.T),.ref tr,.ref ti,.ref to])/\H tr=some (.tup (IL E.T))/\SqT K H ti (IL E.I)/\SqT K H to (IL E.O)
theorem EV.same{K:Ad}{H H':Hp}{ls:Ac}{v:V}{E:Ent}(s:Same H H')(h:EV K H ls v E):EV K H' ls v E:=by obtain⟨tp,tr,ti,to,e,h1,h2,h3,h4⟩:=h;exact⟨tp,tr,ti,to,e,s _ _ h1,s _ _ h2,SqK.same (k:=true) s h3,SqK.same (k:=true) s h4⟩
theorem Zp5{K:Ad}{H:Hp}{r a:Addr}{xs zs:List V}{o:HO}(hr:H r=some (.lst zs))(h:SqT K H a xs):SqT K (upd H r o) a xs:=by
 rcases h with (h | ⟨u,h⟩) | h
 .exact .inl (.inl (by rwa[Zz9 (Zb4 h hr (by simp))]))
 .exact .inl (.inr ⟨u,by rwa[Zz9 (Zb4 h hr (by simp))]⟩)
 .exact .inr h
theorem EV.put{K:Ad}{H:Hp}{ls:Ac}{v:V}{E:Ent}{r:Addr}{zs:List V}{o:HO}(hr:H r=some (.lst zs))(h:EV K H ls v E):EV K (upd H r o) ls v E:=by obtain⟨tp,tr,ti,to,e,h1,h2,h3,h4⟩:=h;exact⟨tp,tr,ti,to,e,by rw[Zz9 (Zb4 h1 hr (by simp))];exact h1,by rw[Zz9 (Zb4 h2 hr (by simp))];exact h2,Zp5 hr h3,Zp5 hr h4⟩
theorem ZC8{K:Ad}{H:Hp}{a b:Addr}{xs ys:List V}{Q:VK}(ha:SqT K H a xs)(hb:SqT K H b ys)(hy:ys≠[])(hz:xs.length+ys.length<=sizeLine)(q:∀(p:Addr) (H':Hp),Same H H'->SqT K H' p (xs++ys)->Q (.ref p) H'):Zt12 K (.ref a) (.ref b) H Q :=
 ⟨a,b,xs,ys,rfl,rfl,ha,hb,hz,λe=>q b H (Same.refl _) (by rwa[e]),λ_ e=>absurd e hy,λ_ _ p hp=>q p _ (same_at hp) (SqT.of Zz1)⟩
def spZG(K:Ad)(C:Addr):Sp:=λvs H Q _=>∃(w a o tk:Addr) (n:Int) (ps:Aa) (kd:Bool) (ls os:Ac) (E:Ent),vs=[.ref w,.ref a,.ref o,.ref tk]/\WebAt C H w n ps/\Zy n ps/\SqK kd K H a (IL ls)/\ls.length=ps.length/\SqL K H o (IL os)/\OrdL ls ps.length os/\EV K H ls (.ref tk) E/\EOk n ps ls E /\
 ∀(ys:List V) (Es:List Ent) (r:Addr) (H':Hp),FB n ps ls E E.T Es->Es.length<=14->Bears (EV K H' ls) ys Es->Same H H'->H r=none->H' r=some (.lst ys)->Q (.ref r) H'
theorem scZG:FnScope ["web","lengths","order","taken","inside","outside","firsts","tie"] ["web","lengths","order","taken"] (Zz4 sZG):=⟨rfl,rfl,rfl,by decide +kernel,rfl,by decide +kernel,by decide +kernel⟩
theorem okZG (T:Txt K mg t):FnOk P w K mg base CX0 6 t.aZG t.dZG ["web","lengths","order","taken"] (spZG K t.A_Web):=by
 refine T.fZG.ok scZG (λvs H Q E h=>?_) (λcdv A outer s H vs Q E hr h=>?_)
 .obtain⟨w,a,o,tk,n,ps,kd,ls,os,E,rfl,_⟩:=h;rfl
 .obtain⟨w,a,o,tk,n,ps,kd,ls,os,E,rfl,hW,hG,hA,hll,hO,ho,hV,hE,q⟩:=h;refine⟨_,(Zz2 (Ze (i:=4) scZG.nd rfl (Or.inl rfl) (ZL (ZD K) (pv 3) Zz8 (λ_ _=>rfl)))
   (Zz2 (Ze (i:=5) scZG.nd rfl (Or.inl rfl) (ZL (ZD K) (pv 3) Zz8 (λ_ _=>rfl)))
   (Zz2 (Ze (i:=6) scZG.nd rfl (Or.inl rfl) (Zz Zz3))
   (Zz2 (ZX YX rfl (ZY1 K (ZL (ZD K) (pv 3) Zz8 (λ_ _=>rfl))) (Zc (i:=7) scZG.nd rfl (Or.inl rfl))
   (Zz6 (Ze1 (Zi (Zz84 K) (pv 7) (pv 4) rfl)
   (Zz2 (ZC (Zq1 K YL Y1Z Y1Y Zy2 (pv 6) (Zz0 (Za (okZF T) (hr.mono (by decide)) rfl T.mZF T.fZF.kp T.bZF .nil ZJ (Zz0 (pv 0) (Zz0 (pv 1) (Zz0 (pv 2) (Zz0 (pv 4) (Zz0 (Zp (Zz42 K) (pv 5) (ZE (Zz0 (pv 7) Zz3))) Zz3)))))) Zz3)))
   (Zz6 (Ze (i:=4) scZG.nd rfl (Or.inl rfl) (Zp (Zz42 K) (pv 4) (ZE (Zz0 (pv 7) Zz3))))))
   Zm)))
   (Zz6 (Zk (pv 6))))))),?_⟩
  obtain⟨tp,tr,ti,to,e,h1,h2,h3,h4⟩:=hV;cases e;refine⟨_,rfl,tk,_,2,.ref ti,rfl,rfl,SqT.of h1,rfl,?_⟩;refine nm ?_;dsimp only;refine⟨_,rfl,tk,_,3,.ref to,rfl,rfl,SqT.of h1,rfl,?_⟩;refine nm ?_;dsimp only;refine⟨Yl _,λr hr=>?_⟩;have u0:=same_at (o:=.lst []) hr
  have hTl:(E.T.length:Int)=n - 1:=hE.own.1.2.1;have hG2:=hG.2.1
  have hps:=hG.2.2.1;have one:1<=sizeLine:=by decide
  have z1:100000<=sizeLine:=by decide
  have hnd:E.T.Nodup:=hE.own.1.1.nodup;have hol:os.length=ps.length:=by rw[ho.1.length_eq,Zz31]
  have hon:os.Nodup:=ho.2.imp λh e=>by rw[e]at h;lia
  refine nm ?_;dsimp only;refine⟨_,rfl,tk,_,1,.ref tr,rfl,rfl,SqT.of (u0 _ _ h1),rfl,tr,rfl,⟨_,SqT.of (u0 _ _ h2)⟩,Zp6 (K:=K) (a:=tr) (xs:=IL E.T) (λj σ H2=>∃(iA:Addr) (v7:Option V) (ys:List V) (Es:List Ent),σ=[some (.ref w),some (.ref a),some (.ref o),some (.ref tk),some (.ref iA),some (.ref to),some (.ref r),v7]/\j<=E.T.length/\Same H H2/\SqT K H2 iA (IL (insd E (E.T.take j)))/\H2 r=some (.lst ys)/\Bears (EV K H2 ls) ys Es/\FB n ps ls E (E.T.take j) Es/\Es.length<=j) ⟨ti,none,[],[],rfl,Yl _,u0,?_,Zz1,⟨rfl,λi a h=>by cases h⟩,FB.nil,Yy6 _⟩ (λj σ H2 _ ⟨_,_,_,_,_,_,s2,_⟩=>SqT.of (s2 _ _ h2)) ?_ ?_⟩
  .rw[show insd E (E.T.take 0)=E.I by unfold insd;rw[List.take_zero,Yy13,YO]];exact SqK.same (k:=true) u0 h3
  rotate_left
  .rintro σ H2 ⟨iA,v7,ys,Es,rfl,_,s2,_,hr2,hB,hF,hlen⟩;rw[Zz5,QP]at hF;exact⟨_,rfl,q ys Es r H2 hF (by rw[Zz5]at hlen;lia) hB s2 hr hr2⟩
  rintro j v σ H2 hj ⟨iA,v7,ys,Es,rfl,hjl,s2,hiA,hr2,hB,hF,hlen⟩;obtain⟨z,rfl,hz⟩:=Zb1 hj;have hj':j<E.T.length:=(Yy3.mp hz).1
  have et:E.T.take (j+1)=E.T.take j++[z]:=by rw[YS,hz];rfl
  have hzT:z∈E.T:=Yy8 hz;have hzl:z∉E.T.take j:=λhm=>by
   have:=hnd.sublist (Y1y (j+1) E.T)
   rw[et]at this;exact(Y0d.mp this).2.2 z hm z (Yy1.mpr rfl) rfl
  have hb:=hE.own.1.1.all z hzT;refine nm ?_;dsimp only;refine⟨_,rfl,_,rfl,iA,_,rfl,.inr hiA,rfl,Zr4 _,_,rfl,?_⟩;rw[Zb6];refine itn2 (λhc=>?_) (λhc=>?_)
  .have hzI:z∈E.I:=(insd_mem.mp hc).resolve_right hzl;show(_:Prop)
   refine⟨iA,_,ys,Es,rfl,hj',s2,?_,hr2,hB,?_,by lia⟩
   .have ei:insd E (E.T.take (j+1))=insd E (E.T.take j):=by unfold insd;rw[et,Yy04,Y1p (by simp[hzI]),Yy13,YO]
    rwa[ei]
   .rw[et];exact hF.skip hzI
  .have hzI:z∉E.I:=λh=>hc (insd_mem.mpr (.inl h));have ei:insd E (E.T.take (j+1))=insd E (E.T.take j)++[z]:=by unfold insd;rw[et,Yy04,Y1o (by simp[hzI]),Yy13,Yy09]
   have hIr:∀ y∈insd E (E.T.take j),0<=y/\y<(ps.length:Int):=λy hy=>hE.own.1.1.all y ((insd_mem.mp hy).elim (hE.own.2.1 y) λh=>Y0T h);have hIl:(insd E (E.T.take j)).length<=100:=by
    have:=hE.iL
    unfold insd;rw[Yy5]
    have:=Y1C (λz=>decide (z∉E.I)) (E.T.take j)
    rw[YI]at this;lia
   have hOl:=hE.oL;have fin:∀(zs:List V) (Fs:List Ent) (H4:Hp) (r3:Addr),Same H2 H4->H4 r3=some (.lst zs)->zs.length<=1->Bears (EV K H4 ls) zs Fs->FB n ps ls E (E.T.take j++[z]) (Es++Fs)->Fs.length<=1 ->
     ZY7 (.ref r) [.ref r3] H4 λ_ H5=>tAsg (tOp (Zt12 K) (tVar 4) (tTup (Zh12 (tVar 7) tNil))) (Zs8 4) { nx:=λσ H'=>∃(iA:Addr) (v7:Option V) (ys:List V) (Es:List Ent),σ=[some (.ref w),some (.ref a),some (.ref o),some (.ref tk),some (.ref iA),some (.ref to),some (.ref r),v7]/\j+1<=E.T.length/\Same H H'/\SqT K H' iA (IL (insd E (E.T.take (j+1))))/\H' r=some (.lst ys)/\Bears (EV K H' ls) ys Es/\FB n ps ls E (E.T.take (j+1)) Es/\Es.length<=j+1,rt:=Q } [some (.ref w),some (.ref a),some (.ref o),some (.ref tk),some (.ref iA),some (.ref to),some (.ref r),some (.int z)] H5:=by
    intro zs Fs H4 r3 s4 hr3 hz1 hBz hF2 hFl;have hyl:ys.length=Es.length:=hB.1
    refine⟨r,r3,ys,zs,rfl,rfl,s4 _ _ hr2,hr3,by lia,?_⟩;refine⟨_,rfl,_,rfl,one,λt2 ht2=>?_⟩;have hiA4:SqT K (upd H4 r (.lst (ys++zs))) iA (IL (insd E (E.T.take j))):=Zp5 (s4 _ _ hr2) (SqK.same (k:=true) s4 hiA)
    have u2:=same_at (o:=.tup (IL [z])) ht2;refine ZC8 (SqK.same (k:=true) u2 hiA4) (SqT.of Zz1) (by simp) (by rw[Zz5];show _+1<=_;lia) λp2 H6 s6 hp2=>?_;refine nm ?_;have s5:Same H (upd H4 r (.lst (ys++zs))):=Zs hr (s2.trans s4)
    have s56:=u2.trans s6;refine⟨p2,_,ys++zs,Es++Fs,rfl,hj',s5.trans s56,?_,s56 _ _ Zz1,?_,by rw[et];exact hF2,by rw[Yy5];lia⟩
    .rw[ei,Zd1];exact hp2
    .exact((hB.imp λ_ _ h=>h.same s4).app hBz).imp λ_ _ h=>(EV.put (s4 _ _ hr2) h).same s56
   refine⟨_,rfl,.inl ⟨rfl,_,SqL.of hr2⟩,_,rfl,_,rfl,_,rfl,_,rfl,_,rfl,_,rfl,one,λt1 ht1=>?_⟩;have u1:=same_at (o:=.tup (IL [z])) ht1
   refine ZC8 (SqK.same (k:=true) (s2.trans u1) h4) (SqT.of Zz1) (by simp) (by rw[Zz5];show _+1<=_;lia) λp1 H3 s3 hp1=>?_;have s13:=u1.trans s3
   have s23:=s2.trans s13;have hp1:SqT K H3 p1 (IL (E.O++[z])):=by rwa[Zd1]
   refine⟨w,a,o,iA,p1,n,ps,kd,ls,os,insd E (E.T.take j),E.O++[z],rfl,hW.same s23,hG,hA.same s23,hll,SqK.same (k:=false) s23 hO,by lia,hon,λy hy=>(Zz23 hG ho).mp hy,SqK.same (k:=true) s13 hiA,hp1,hIl,by rw[Yy5];show _+1<=_;lia,hIr,ZF2 hG _ (Zw7 hG ho hIr),λhno r3 H4 s4 hr30 hr3=>?_,λg1 g2 ms r3 tp2 tr2 H4 hp hs s4 hr30 htp0 hr3 htp htr=>?_⟩
   .have hd:insd E (E.T.take j)=_:=rfl;refine fin [] [] H4 r3 (s13.trans s4) hr3 (Yl _) ⟨rfl,λi a h=>by cases h⟩ ?_ (Yl _);rw[YO];refine hF.none (Zo8 hG ho hIr ?_ hno);exact Y0d.mpr ⟨hE.iN,(hnd.sublist (Y1y _ _)).filter _,λa ha b hb e=>Yy (Yn.mp hb).2 (e ▸ ha)⟩
   .refine fin [.ref tp2] [⟨ms,insd E (E.T.take j),E.O++[z]⟩] H4 r3 (s13.trans s4) hr3 (Yy6 _) ⟨rfl,λi a h=>?_⟩ (hF.more (ZV10 hG ho hE (hnd.sublist (Y1y _ _)) (λy hy=>Y0T hy) hzT hc g1 g2 hp hs)) (Yy6 _)
    match i,h with
    | 0,h =>
     obtain rfl:=Yd h;exact⟨_,rfl,tp2,tr2,iA,p1,rfl,htp,htr,SqK.same (k:=true) (s13.trans s4) hiA,SqK.same (k:=true) s4 hp1⟩
    | i+1,h=>cases h
def ZO12(st:Stmt):Pos:=match (Zi1 st).getD 1 (.Pass ⟨0,0,0,0⟩) with
 | .Assign _ (.Call _ _ [k] _) _=>(match k.value with
  | .Lambda _ _ _ p=>p
  | _=>⟨0,0,0,0⟩)
 | _=>⟨0,0,0,0⟩
def Zy13:Str:=Str.ofString "ranked"++Str.ofString ".<locals>."++Str.ofString "<lambda>"
abbrev TabR(H:Hp)(Pt:Addr):Prop:=TabH H Pt (ZO12 sZH) Zy13
def PV(H:Hp)(ls:Ac)(v:V)(T:Ac):Prop:=∃ tp tr:Addr,v=.ref tp/\H tp=some (.tup [.int (sumL ls T),.ref tr])/\H tr=some (.tup (IL T))
theorem PV.same{H H':Hp}{ls:Ac}{v:V}{T:Ac}(s:Same H H')(h:PV H ls v T):PV H' ls v T:=by obtain⟨tp,tr,e,h1,h2⟩:=h;exact⟨tp,tr,e,s _ _ h1,s _ _ h2⟩
theorem PV.put{H:Hp}{ls:Ac}{v:V}{T:Ac}{r:Addr}{zs:List V}{o:HO}(hr:H r=some (.lst zs))(h:PV H ls v T):PV (upd H r o) ls v T:=by obtain⟨tp,tr,e,h1,h2⟩:=h;exact⟨tp,tr,e,by rw[Zz9 (Zb4 h1 hr (by simp))];exact h1,by rwa[Zz9 (Zb4 h2 hr (by simp))]⟩
theorem ZB11{K:Ad}{H:Hp}{ls:Ac}{v u:V}{E F:Ent}(h1:EV K H ls v E)(h2:EV K H ls u F):EqD K H 2 v u (decide (E=F)):=by
 obtain⟨tp,tr,ti,to,rfl,a1,a2,a3,a4⟩:=h1;obtain⟨tp',tr',ti',to',rfl,b1,b2,b3,b4⟩:=h2;have e:((List.range (min [V.int (sumL ls E.T),.ref tr,.ref ti,.ref to].length [V.int (sumL ls F.T),.ref tr',.ref ti',.ref to'].length)).all (λi=>match i with
   | 0=>decide (sumL ls E.T=sumL ls F.T)
   | 1=>decide (E.T=F.T)
   | 2=>decide (E.I=F.I)
   | _=>decide (E.O=F.O)) && [V.int (sumL ls E.T),.ref tr,.ref ti,.ref to].length == [V.int (sumL ls F.T),.ref tr',.ref ti',.ref to'].length)=decide (E=F):=by
  show(decide (sumL ls E.T=sumL ls F.T) && (decide (E.T=F.T) && (decide (E.I=F.I) && (decide (E.O=F.O) && true))) && true)=decide (E=F);obtain⟨T1,I1,O1⟩:=E;obtain⟨T2,I2,O2⟩:=F;rw[Y0M];simp only [Bool.and_true,Y0r,Y2G,Ent.mk.injEq];constructor
  .rintro⟨_,h1,h2,h3⟩;exact⟨h1,h2,h3⟩
  .rintro⟨h1,h2,h3⟩;exact⟨by rw[h1],h1,h2,h3⟩
 rw[<- e];refine EqD.tups (SqT.of a1) (SqT.of b1) λi x y hx hy=>?_
 match i,hx,hy with
 | 0,hx,hy =>
  obtain rfl:=Yd hx;obtain rfl:=Yd hy;exact Zt6 rfl rfl
 | 1,hx,hy =>
  obtain rfl:=Yd hx;obtain rfl:=Yd hy;exact ZH2 (SqT.of a2) (SqT.of b2)
 | 2,hx,hy =>
  obtain rfl:=Yd hx;obtain rfl:=Yd hy;exact ZH2 a3 b3
 | 3,hx,hy =>
  obtain rfl:=Yd hx;obtain rfl:=Yd hy;exact ZH2 a4 b4
 | i+4,hx,_=>cases hx
def spZH(K:Ad)(C Pt R:Addr):Sp:=λvs H Q E=>∃(w a:Addr) (n most:Int) (ps:Aa) (kd:Bool) (ls:Ac),vs=[.ref w,.ref a,.int most]/\WebAt C H w n ps/\Zy n ps/\SqK kd K H a (IL ls)/\0<=most/\most<=1000/\TabR H Pt /\
 (ls.length=ps.length->∀(ys:List V) (L:Ab) (r:Addr) (H':Hp),Rkd n ps ls most.toNat L->Bears (PV H' ls) ys L->SameX Pt H H'->TabR H' Pt->H r=none->H' r=some (.lst ys)->Q (.ref r) H')/\(ls.length≠ps.length->E (.ref R) none H)
theorem scZH:FnScope ["web","lengths","most","order","waiting","told","taken"] ["web","lengths","most"] (Zz4 sZH):=⟨rfl,rfl,rfl,by decide +kernel,rfl,by decide +kernel,by decide +kernel⟩
theorem okZH {Pt:Addr} (T:Txt K mg t) (hB:Zz912 K mg base t.dZH Pt):FnOk P w K mg base (CXW P w) 8 t.aZH t.dZH ["web","lengths","most"] (spZH K t.A_Web Pt t.A_BadRow):=by
 obtain⟨cA,hcode,hC,hBa,hPg⟩:=hB;refine T.fZH.okLX hcode scZH (λvs H Q E h=>?_) (λA outer s H vs Q E hr h=>?_)
 .obtain⟨w,a,n,most,ps,kd,ls,rfl,_⟩:=h;rfl
 .obtain⟨w,a,n,most,ps,kd,ls,rfl,hW,hG,hA,hm0,hm1,hT,q',qe⟩:=h;refine⟨_,(Zz2 (ZC (Za (okZ9 T) (hr.mono (by decide)) rfl T.mZ9 T.fZ9.kp T.bZ9 .nil pxs (Zz0 (pv 0) (Zz0 (pv 1) Zz3))))
   (Zz2 (Ze (i:=3) scZH.nd rfl (Or.inl rfl) (ZJ5 (k:=0) (i:=1) (v:="tie") (x:="lengths") (Za (okZa T) (hr.mono (by decide)) rfl T.mZa T.fZa.kp T.bZa .nil ZJ (Zz0 (pv 0) Zz3)) (by rfl) T.n_sorted (hr.mono (by decide)) rfl rfl hC hBa hPg (LamScope.of rfl rfl rfl (by first | exact .inl rfl | exact .inr rfl) (by decide)) rfl rfl (λ_ _ _ _=>rfl) rfl rfl rfl (λ_ _ _ _ _ _ hr=>(ZL (Zg4 K) (pv 1) (pv 0) (λ_ _=>rfl)))))
   (Zz2 (Ze (i:=4) scZH.nd rfl (Or.inl rfl) (Za (okZF T) (hr.mono (by decide)) rfl T.mZF T.fZF.kp T.bZF .nil ZJ (Zz0 (pv 0) (Zz0 (pv 1) (Zz0 (pv 3) (Zz0 (ZE Zz3) (Zz0 (ZE Zz3) Zz3)))))))
   (Zz2 (Ze (i:=5) scZH.nd rfl (Or.inl rfl) (Zz Zz3))
   (Zz2 (ZF5 Y1P (PW.pt (ZJ10 (Zi ZX10 (Zd (Zh K) (by rfl) T.n_len Boot.«len» (Zz0 (pv 4) Zz3)) Zz8 (Zq _)) (ZZ7 (Zi ZM5 (Zd (Zh K) (by rfl) T.n_len Boot.«len» (Zz0 (pv 5) Zz3)) (pv 2) (Zq _)))))
   (Zz2 (Ze (i:=6) scZH.nd rfl (Or.inl rfl) (Zd (ZT6 K rfl (hu8 hr)) (by rfl) T.n_min Boot.«min» (Zz0 (pv 4) Zz3)))
   (Zz2 (ZC (Zq1 K YL PySem.F.slot_list_remove PySem.F.type_list_remove (ZR5 K (hu8 hr)) (pv 4) (Zz0 (pv 6) Zz3)))
   (Zz2 (ZC (Zq1 K YL Y0b Y0a ZV (pv 5) (Zz0 (ZE (Zz0 (ZL (ZD K) (pv 6) Zz8 (λ_ _=>rfl)) (Zz0 (ZL (ZD K) (pv 6) Zz8 (λ_ _=>rfl)) Zz3))) Zz3)))
   (Zz6 (ZC (Zq1 K YL Y1Z Y1Y Zy2 (pv 4) (Zz0 (Za (okZG T) (hr.mono (by decide)) rfl T.mZG T.fZG.kp T.bZG .nil ZJ (Zz0 (pv 0) (Zz0 (pv 1) (Zz0 (pv 3) (Zz0 (pv 6) Zz3))))) Zz3))))))))
   (Zz6 (Zk (pv 5)))))))),?_⟩
  have hps:=hG.2.2.1;have hG2:=hG.2.1
  refine⟨_,rfl,_,rfl,w,a,n,ps,kd,ls,rfl,hW,hA,λhll=>?_,qe⟩;have q:=q' hll
  refine⟨_,rfl,w,n,ps,rfl,hW,by lia,λp1 H1 s1 hp10 hp1=>?_⟩;have hT1:TabR H1 Pt:=hT.same s1
  refine⟨p1,rgL ps.length,.ref a,λz=>lnz ls z,rfl,SqT.of hp1,by rw[Zz31];lia,hT1,rfl,λH2 sx z hz=>?_,λos l H2 hst sx tab hl2=>?_⟩
  .have hb:=rgL_mem.mp hz;obtain⟨y,hy⟩:∃ y,ls[z.toNat]?=some y:=⟨_,Yy2 (by grind)⟩;have e:lnz ls z=y:=getD_of hy
   refine⟨_,rfl,_,rfl,kd,a,_,_,.int y,rfl,rfl,(hA.same s1).samex hT1 sx,ZN (n:=z.toNat) (by lia) (ZW4 hy),?_,rfl⟩;show V.int y=V.int (lnz ls z)
   rw[e]
  have hO2:OrdL ls ps.length os:=ZL8 hst;have s3:=same_at (o:=.lst (IL os)) hl2
  have h3l:(upd H2 l (.lst (IL os))) l=some (.lst (IL os)):=Zz1;have sx3:SameX Pt H (upd H2 l (.lst (IL os))):=(SameX.same s1).trans (sx.trans (SameX.same s3))
  have tab3:TabR (upd H2 l (.lst (IL os))) Pt:=tab.same s3;refine nm ?_;dsimp only;change tSeq _ _ _ _ (upd H2 l (.lst (IL os)));generalize upd H2 l (.lst (IL os))=H3 at *;have hW3:=hW.samex hT sx3
  have hA3:=hA.samex hT sx3;have hol:os.length=ps.length:=by rw[hO2.1.length_eq,Zz31]
  have hon:os.Nodup:=hO2.2.imp λh e=>by rw[e]at h;lia
  refine Zz113 (λσ H4=>∃(wt:Addr) (ys:List V) (Es:List Ent),σ=[some (.ref w),some (.ref a),some (.int most),some (.ref l),some (.ref wt),none,none]/\Same H3 H4/\H3 wt=none/\H4 wt=some (.lst ys)/\Bears (EV K H4 ls) ys Es/\RI n ps ls [] Es/\Es.length<=1) ?_ ?_;rotate_left
  .intro K' hK';refine⟨_,rfl,_,rfl,_,rfl,Yl _,λi0 hi0=>⟨Yl _,λu0 hu0=>?_⟩⟩;have v1:=same_at (o:=.tup (IL [])) hi0
   have v2:=same_at (o:=.tup (IL [])) hu0;have v12:=v1.trans v2
   refine⟨w,a,l,i0,u0,n,ps,kd,ls,os,[],[],rfl,hW3.same v12,hG,hA3.same v12,hll,SqL.of (v12 _ _ h3l),by lia,hon,λy hy=>(Zz23 hG hO2).mp hy,SqT.of (v2 _ _ Zz1),SqT.of Zz1,Yl _,Yl _,λy hy=>(by cases hy),ZF2 hG _ (Zw7 hG hO2 λy hy=>by cases hy),λhno r H' s' hr0 hr'=>?_,λg1 g2 ms r tp tr H' hp hs s' hr0 htp0 hr' htp htr=>?_⟩
   .refine nm ?_;refine hK' _ _ ⟨r,[],[],rfl,v12.trans s',v12.free hr0,hr',⟨rfl,λi a h=>by cases h⟩,⟨λ_ h=>(by cases h),.nil,λ_ h=>(by cases h),λW hW=>?_,λ_ h=>(by cases h),.nil⟩,Yl _⟩;exact absurd ⟨hW,λz hz=>(by cases hz),λz hz=>(by cases hz)⟩ (Zo8 hG hO2 (I:=[]) (O:=[]) (λy hy=>by cases hy) .nil hno W)
   .refine nm ?_;obtain⟨b1,b2⟩:=Zp8 hG hO2 (I:=[]) (O:=[]) (λy hy=>by cases hy) (λy hy=>by cases hy) g1 g2 hp hs;have eok:EOk n ps ls ⟨ms,[],[]⟩:=⟨b1,b2,.nil,.nil,λz hz=>by cases hz⟩
    refine hK' _ _ ⟨r,[.ref tp],[⟨ms,[],[]⟩],rfl,v12.trans s',v12.free hr0,hr',⟨rfl,λi b h=>?_⟩,⟨λ_ h=>(by cases h),.nil,λF hF=>(by rwa[Yy1.mp hF]),λW hW=>.inr ⟨_,Yy1.mpr rfl,hW,λz hz=>(by cases hz),λz hz=>(by cases hz)⟩,λ_ _ _ _ _ h=>(by cases h),Yy05 _ _⟩,Yy6 _⟩
    match i,h with
    | 0,h =>
     obtain rfl:=Yd h;exact⟨_,rfl,tp,tr,i0,u0,rfl,htp,htr,SqT.of (s' _ _ (v2 _ _ Zz1)),SqT.of (s' _ _ Zz1)⟩
    | i+1,h=>cases h
  rintro σ H4 ⟨wt,ys,Es,rfl,s4,hwt3,hwt4,hB,hR,hEl⟩;refine⟨Yl _,λtd htd=>?_⟩;refine nm ?_;dsimp only;have htd3:H3 td=none:=s4.free htd
  have u5:=same_at (o:=.lst []) htd;have nwt:wt≠td:=Zb hwt4 htd
  have h5w:(upd H4 td (.lst [])) wt=some (.lst ys):=u5 _ _ hwt4;refine⟨λm σ H6=>∃(v6:Option V) (ys zs:List V) (Es:List Ent) (L:Ab),σ=[some (.ref w),some (.ref a),some (.int most),some (.ref l),some (.ref wt),some (.ref td),v6]/\Same H3 H6/\H6 wt=some (.lst ys)/\H6 td=some (.lst zs)/\Bears (EV K H6 ls) ys Es/\Bears (PV H6 ls) zs L/\RI n ps ls L Es/\L.length+m=most.toNat/\Es.length<=1+14 * L.length,⟨most.toNat,none,ys,[],Es,[],rfl,s4.trans u5,h5w,Zz1,hB.imp λ_ _ h=>h.same u5,⟨rfl,λi a h=>by cases h⟩,hR,by simp,by simpa using hEl⟩,?_⟩;rintro m σ H6 ⟨v6,ys,zs,Es,L,rfl,s6,hw6,ht6,hBy,hBz,hRI,hm,hEs⟩;have hyl:ys.length=Es.length:=hBy.1
  have hzl:zs.length=L.length:=hBz.1;have done:(Es=[]\/L.length=most.toNat)->Q (.ref td) H6:=λhd=>by
   refine q zs L td H6 ⟨hRI.tr,hRI.asc,by lia,λW hW=>?_⟩ hBz (sx3.trans (SameX.same s6)) (tab3.same s6) ?_ ht6
   .rcases hRI.cov W hW with c | ⟨F,c1,c2⟩
    .exact .inl c
    .rcases hd with d | d
     .rw[d]at c1;cases c1
     .exact .inr ⟨d,hRI.beh F c1 W c2⟩
   .cases hq:H td with
    | none=>rfl
    | some u =>
     by_cases c:td=Pt
     .obtain⟨pt,e,_⟩:=tab3;rw[c,e]at htd3;cases htd3
     .have:=sx3 td u c hq
      rw[htd3]at this;cases this
  refine⟨_,rfl,wt,ys,rfl,.inl (SqL.of hw6),_,_,rfl,rfl,_,rfl,?_⟩;refine itd2 (λhc=>?_) (λhc=>?_);rotate_left
  .refine iteF ?_;refine⟨_,rfl,done (.inl ?_)⟩;exact YV.mp (by lia)
  refine⟨_,rfl,td,zs,rfl,.inl (SqL.of ht6),_,rfl,_,_,rfl,rfl,_,rfl,?_⟩;refine itd2 (λhc2=>?_) (λhc2=>?_);rotate_left
  .exact⟨_,rfl,done (.inr (by lia))⟩
  refine⟨_,λσ' H' h=>h,?_⟩;have nd:(Es.map λE=>(sumL ls E.T,E.T)).Nodup:=by refine Yy07.mpr λi j hi hj hij e=>?_;rw[List.getElem_map,List.getElem_map]at e;rw[Yc]at hi hj;exact hRI.unlike (Yy2 hi) (Yy2 hj) (Yo hij) (Prod.mk.inj e).2
  refine⟨_,rfl,wt,ys,Es.map λE=>(sumL ls E.T,E.T),false,rfl,SqL.of hw6,by lia,by rw[Yc];exact hyl,λi x hx=>?_,λ_=>nd,λi tp x hx hy hmin=>?_⟩
  .rw[Yp]at hx;obtain⟨E,hE,rfl⟩:=Y1u.mp hx;obtain⟨v,hv,tp,tr,ti,to,rfl,h1,h2,_⟩:=hBy.2 i E hE;exact⟨tp,tr,[.ref ti,.ref to],hv,SqT.of h1,SqT.of h2,λz=>by cases z⟩
  rw[Yp]at hx;obtain⟨E,hE,rfl⟩:=Y1u.mp hx;obtain⟨v,hv,hEV⟩:=hBy.2 i E hE;obtain rfl:v=.ref tp:=Yd (hv.symm.trans hy);have hmn:∀ F∈Es,¬ pl ls F.T E.T:=λF hF h=>by
   have:=hmin _ (Yx.mpr ⟨F,hF,rfl⟩)
   unfold pl at h;rw[this]at h;cases h
  have okE:=hRI.ok E (Yy8 hE);have il:i<ys.length:=(Yy3.mp hy).1
  have uniq:∀(k:Nat) (b:Addr) (F:Ent),ys[k]?=some (.ref b)->Es[k]?=some F->b=tp->k=i:=λk b F hb hF e=>Yr λhn=>by
   obtain⟨v',hv',hF'⟩:=hBy.2 k F hF;obtain rfl:v'=.ref b:=Yd (hv'.symm.trans hb);subst e;obtain⟨_,r1,_,_,e1,a1,a2,_⟩:=hF';obtain⟨_,r2,_,_,e2,b1,b2,_⟩:=hEV;cases e1;cases e2;rw[a1]at b1;have e3:=Yd b1
   injection e3 with e3;injection e3 with _ e3;injection e3 with e3 _;injection e3 with e3;subst e3;rw[a2]at b2;have e4:=Yd b2
   injection e4 with e4;exact hRI.unlike hF hE hn ((List.map_inj_right (f:=V.int) (λx y h=>by injection h)).mp e4)
  refine nm ?_;dsimp only;refine⟨_,rfl,.inl ⟨rfl,_,SqL.of hw6⟩,_,rfl,2,wt,ys,.ref tp,λb=>decide (b=tp),i,tp,rfl,rfl,hw6,by decide,λv hv'=>?_,hy,Yt rfl,λk b hk hb=>?_,?_⟩
  .obtain⟨k,hk⟩:=Y0f hv';obtain⟨F,hF,hFV⟩:=hBy.at hk;obtain⟨b,rfl⟩:∃ b,v=.ref b:=let ⟨b,_,_,_,e,_⟩:=hFV;⟨b,e⟩
   refine⟨b,rfl,?_⟩;have eb:decide (F=E)=decide (b=tp):=by
    rw[decide_eq_decide];constructor
    .intro e;have ki:k=i:=Yr λhn=>hRI.unlike hF hE hn (by rw[e])
     subst ki;rw[hy]at hk;cases hk;rfl
    .intro e;have ki:=uniq k b F hk hF e
     subst ki;rw[hF]at hE;exact Yd hE
   show EqD K H6 2 (.ref b) (.ref tp) (decide (b=tp));rw[<- eb];exact ZB11 hFV hEV
  .obtain⟨F,hF,_⟩:=hBy.at hb;refine YT λe=>?_
   have:=uniq k b F hb hF e
   lia
  have s7:Same H3 (upd H6 wt (.lst (ys.eraseIdx i))):=Zs hwt3 s6;have hw7:(upd H6 wt (.lst (ys.eraseIdx i))) wt=some (.lst (ys.eraseIdx i)):=Zz1
  have ht7:(upd H6 wt (.lst (ys.eraseIdx i))) td=some (.lst zs):=by rwa[Zz9 (YR nwt)]
  have hEV7:=EV.put (o:=.lst (ys.eraseIdx i)) hw6 hEV;have hBy7:Bears (EV K (upd H6 wt (.lst (ys.eraseIdx i))) ls) (ys.eraseIdx i) (Es.eraseIdx i):=(hBy.erase i).imp λ_ _ h=>EV.put hw6 h
  have hBz7:Bears (PV (upd H6 wt (.lst (ys.eraseIdx i))) ls) zs L:=hBz.imp λ_ _ h=>PV.put hw6 h;change tSeq _ _ _ _ (upd H6 wt (.lst (ys.eraseIdx i)));generalize upd H6 wt (.lst (ys.eraseIdx i))=H7 at *;obtain⟨_,tr,ti,to,e0,c1,c2,c3,c4⟩:=id hEV7;cases e0;refine⟨_,rfl,.inl ⟨rfl,_,SqL.of ht7⟩,_,rfl,tp,_,0,.int (sumL ls E.T),rfl,rfl,SqT.of c1,rfl,_,rfl,tp,_,1,.ref tr,rfl,rfl,SqT.of c1,rfl,(by decide:2<=sizeLine),λt2 ht2=>?_⟩;have u8:=same_at (o:=.tup [.int (sumL ls E.T),.ref tr]) ht2
  have ht8:=u8 _ _ ht7;have z1:100000<=sizeLine:=by decide
  refine⟨td,zs,.ref t2,rfl,rfl,ht8,by grind,?_⟩;have s9:Same H3 (upd (upd H7 t2 (.tup [.int (sumL ls E.T),.ref tr])) td (.lst (zs++[.ref t2]))):=Zs htd3 (s7.trans u8)
  have hw9:(upd (upd H7 t2 (.tup [.int (sumL ls E.T),.ref tr])) td (.lst (zs++[.ref t2]))) wt=some (.lst (ys.eraseIdx i)):=by rw[Zz9 nwt];exact u8 _ _ hw7
  have ht9:(upd (upd H7 t2 (.tup [.int (sumL ls E.T),.ref tr])) td (.lst (zs++[.ref t2]))) td=some (.lst (zs++[.ref t2])):=Zz1;have hEV9:=EV.put (o:=.lst (zs++[.ref t2])) ht8 (hEV7.same u8)
  have hBy9:Bears (EV K (upd (upd H7 t2 (.tup [.int (sumL ls E.T),.ref tr])) td (.lst (zs++[.ref t2]))) ls) (ys.eraseIdx i) (Es.eraseIdx i):=hBy7.imp λ_ _ h=>EV.put ht8 (h.same u8);have hPV9:PV (upd (upd H7 t2 (.tup [.int (sumL ls E.T),.ref tr])) td (.lst (zs++[.ref t2]))) ls (.ref t2) E.T:=PV.put ht8 ⟨t2,tr,rfl,Zz1,u8 _ _ c2⟩
  have hBz9:Bears (PV (upd (upd H7 t2 (.tup [.int (sumL ls E.T),.ref tr])) td (.lst (zs++[.ref t2]))) ls) (zs++[.ref t2]) (L++[E.T]):=(hBz7.imp λ_ _ h=>PV.put ht8 (h.same u8)).snoc hPV9;generalize upd (upd H7 t2 (.tup [.int (sumL ls E.T),.ref tr])) td (.lst (zs++[.ref t2]))=H9 at *;refine⟨_,rfl,.inl ⟨rfl,_,SqL.of hw9⟩,_,rfl,_,rfl,_,rfl,_,rfl,w,a,l,tp,n,ps,kd,ls,os,E,rfl,hW3.same s9,hG,hA3.same s9,hll,SqL.of (s9 _ _ h3l),hO2,hEV9,okE,λws Fs r H10 hFB hFl hBw s10 hr0 hr10=>?_⟩;have hwl:ws.length=Fs.length:=hBw.1
  have hel:(ys.eraseIdx i).length=ys.length - 1:=by rw[Y0U,if_pos il]
  have hel2:(Es.eraseIdx i).length=Es.length - 1:=by rw[Y0U,if_pos (by lia)]
  have hw10:=s10 _ _ hw9;refine⟨wt,r,_,ws,rfl,rfl,hw10,hr10,by lia,?_⟩;refine⟨m - 1,by lia,_,ys.eraseIdx i++ws,zs++[.ref t2],Es.eraseIdx i++Fs,L++[E.T],rfl,Zs hwt3 (s9.trans s10),Zz1,?_,?_,?_,hRI.step hG hE hmn hFB,?_,?_⟩
  .rw[Zz9 (YR nwt)];exact s10 _ _ ht9
  .exact((hBy9.imp λ_ _ h=>h.same s10).app hBw).imp λ_ _ h=>EV.put hw10 h
  .exact hBz9.imp λ_ _ h=>PV.put hw10 (h.same s10)
  .rw[Yy5,YB];lia
  .rw[Yy5,Yy5,YB];lia
def spZI(K:Ad):Sp:=λvs H Q _=>∃(a:Addr) (ns:Ac) (k:Int),vs=[.ref a,.int k]/\SqL K H a (IL ns)/\0<=k/\∀ r:Int,Q (.int r) H
theorem scZI:FnScope ["script","k"] ["script","k"] (Zz4 sZI):=⟨rfl,rfl,rfl,by decide +kernel,rfl,by decide +kernel,by decide +kernel⟩
theorem okZI (T:Txt K mg t):FnOk P w K mg base CX0 1 t.aZI t.dZI ["script","k"] (spZI K):=by
 refine T.fZI.ok scZI (λvs H Q E h=>?_) (λcdv A outer s H vs Q E hr h=>?_)
 .obtain⟨a,ns,k,rfl,_⟩:=h;rfl
 .obtain⟨a,ns,k,rfl,hS,hk,q⟩:=h;refine⟨_,(Zz2 (Ze1 (Zi ZM5 (pv 1) (Zd (Zh K) (by rfl) T.n_len Boot.«len» (Zz0 (pv 0) Zz3)) (Zq _))
   (Zz6 (Zk (ZL (Zj K) (pv 0) (pv 1) (λ_ _=>rfl))))
   Zm)
   (Zz6 (Zk Zz8))),?_⟩
  refine⟨_,rfl,_,rfl,a,_,rfl,.inl hS,_,_,rfl,rfl,_,rfl,?_⟩;refine ite2 (λhc=>?_) (λ_=>?_)
  .have hc:=Yy hc;rw[Zz5]at hc;obtain⟨z,hz⟩:∃ z,ns[k.toNat]?=some z:=⟨_,Yy2 (by lia)⟩;exact⟨_,rfl,_,rfl,a,_,k,.int z,rfl,rfl,hS,ZN (n:=k.toNat) (by lia) (by rw[Yp,hz];rfl),q z⟩
  .exact q 0
def spZJ:Sp:=λvs H Q _=>∃(c k:Int),vs=[.int c,.int k]/\∀ r:Int,0<=r->r<2147483629->Q (.int r) H
theorem scZJ:FnScope ["cell","k","m"] ["cell","k"] (Zz4 sZJ):=⟨rfl,rfl,rfl,by decide +kernel,rfl,by decide +kernel,by decide +kernel⟩
theorem okZJ (T:Txt K mg t):FnOk P w K mg base CX0 1 t.aZJ t.dZJ ["cell","k"] spZJ:=by
 refine T.fZJ.ok scZJ (λvs H Q E h=>?_) (λcdv A outer s H vs Q E hr h=>?_)
 .obtain⟨c,k,rfl,_⟩:=h;rfl
 .obtain⟨c,k,rfl,q⟩:=h;refine⟨_,(Zz2 (Ze (i:=2) scZJ.nd rfl (Or.inl rfl) (Zp ZF (Zp Zx2 (Zp Zo1 (Zp Zo1 (Zp ZF (pv 0) (Zp ZQ4 Zz8 Zz8)) (Zp Zx2 Zz8 (pv 1))) Zz8) Zz8) Zz8))
   (Zz2 (Ze (i:=2) scZJ.nd rfl (Or.inl rfl) (Zp ZF (Zp Zx2 (pv 2) (pv 2)) Zz8))
   (Zz6 (Zk (Zp ZI1 (Zp ZF (Zp Zx2 (Zp Zo1 (pv 2) (Zp Zx2 Zz8 (Zp Zo1 (pv 1) Zz8))) Zz8) Zz8) Zz8))))),?_⟩
  have m0:-(2 ^ 64)<(c % 10 ^ 60+977 * k+1) * 48271 % 2147483647:=by grind
  have m1:(c % 10 ^ 60+977 * k+1) * 48271 % 2147483647<2 ^ 64:=by grind
  refine⟨_,rfl,_,_,rfl,rfl,⟨by decide,by decide,by decide⟩,_,_,rfl,rfl,(by show(0:Int)<10 ^ 60;decide),_,rfl,_,_,rfl,rfl,.inl ⟨by decide,by decide⟩,_,_,rfl,rfl,_,_,rfl,rfl,_,_,rfl,rfl,.inr ⟨by decide,by decide⟩,_,_,rfl,rfl,(by show(0:Int)<2147483647;decide),?_⟩;refine⟨_,rfl,_,rfl,_,_,rfl,rfl,.inl ⟨m0,m1⟩,_,_,rfl,rfl,(by show(0:Int)<2147483629;decide),?_⟩;refine⟨_,rfl,_,rfl,_,_,rfl,rfl,_,_,rfl,rfl,.inl ⟨by decide,by decide⟩,_,_,rfl,rfl,_,_,rfl,rfl,.inr ⟨by decide,by decide⟩,_,_,rfl,rfl,(by show(0:Int)<2147483629;decide),_,_,rfl,rfl,⟨by decide,by decide⟩,?_⟩;refine q _ ?_ ?_
  .refine Int.ediv_nonneg (Y0z _ (by decide)) (by decide)
  .refine Int.lt_of_le_of_lt (Int.ediv_le_self _ (Y0z _ (by decide))) (Y0o _ (by decide))
def spZK(K:Ad):Sp:=λvs H Q _=>∃(a:Addr) (ns:Ac) (st m:Nat),vs=[.ref a,.int st,.int m]/\SqL K H a (IL ns)/\ns.length<=63/\st<=63/\1<=m/\m<=30/\∀(r:Addr) (ms:Ac) (H':Hp),Same H H'->H r=none->H' r=some (.lst (IL ms))->ms.length<=m->Q (.ref r) H'
theorem scZK:FnScope ["script","start","most","told","k","cell"] ["script","start","most"] (Zz4 sZK):=⟨rfl,rfl,rfl,by decide +kernel,rfl,by decide +kernel,by decide +kernel⟩
theorem okZK (T:Txt K mg t):FnOk P w K mg base CX0 1 t.aZK t.dZK ["script","start","most"] (spZK K):=by
 refine T.fZK.ok scZK (λvs H Q E h=>?_) (λcdv A outer s H vs Q E hr h=>?_)
 .obtain⟨a,ns,st,m,rfl,_⟩:=h;rfl
 .obtain⟨a,ns,st,m,rfl,hS,hn,hst,m1,m30,q⟩:=h;refine⟨_,(Zz2 (Ze (i:=3) scZK.nd rfl (Or.inl rfl) (Zz Zz3))
   (Zz2 (ZX YX rfl (Zz54 rfl T.n_range (Zz0 (pv 1) (Zz0 (Zd (Zh K) (by rfl) T.n_len Boot.«len» (Zz0 (pv 0) Zz3)) Zz3))) (Zc (i:=4) scZK.nd rfl (Or.inl rfl))
   (Zz2 (Ze (i:=5) scZK.nd rfl (Or.inl rfl) (Zp ZF (ZL (Zj K) (pv 0) (pv 4) (λ_ _=>rfl)) (Zp ZQ4 Zz8 Zz8)))
   (Zz6 (Ze1 (Zi ZM5 (Zd (Zh K) (by rfl) T.n_len Boot.«len» (Zz0 (pv 3) Zz3)) (pv 2) (Zq _))
   (Zz6 (ZC (Zq1 K YL Y0b Y0a ZV (pv 3) (Zz0 (pv 5) Zz3))))
   (Zz6 (Zz39 (Zp ZF (Zp Zo1 (Zp Zx2 (ZL (Zj K) (pv 3) (Zp ZF (pv 4) (pv 2)) (λ_ _=>rfl)) Zz8) (pv 5)) (Zp ZQ4 Zz8 Zz8)) (ZP10 (pv 3) (Zp ZF (pv 4) (pv 2)) Zy1)))))))
   (Zz6 (Zk (pv 3))))),?_⟩
  have P18:(0:Int)<10 ^ (18:Int).toNat:=by decide
  have M0:(0:Int)<(m:Int):=by lia
  refine⟨Yl _,λtA htA=>?_⟩;have s0:=same_at (o:=.lst []) htA
  refine⟨_,rfl,_,rfl,a,_,rfl,.inl (s0.seq hS),(st:Int),((IL ns).length:Int),rfl,⟨by lia,by lia,by lia,by rw[Zz5];omega⟩,?_⟩;refine ZP1 (lo:=(st:Int)) (n:=(((IL ns).length:Int) - (st:Int)).toNat) (λj σ H4=>∃(fs:Ac) (v4 v5:Option V),σ=[some (.ref a),some (.int st),some (.int m),some (.ref tA),v4,v5]/\Same H H4/\H4 tA=some (.lst (IL fs))/\fs.length<=m) ⟨[],none,none,rfl,s0,Zz1,Yl _⟩ ?_ ?_
  .rintro j σ H4 hj ⟨fs,v4,v5,rfl,s4,h4,eg⟩;rw[Zz5]at hj;obtain⟨z,hz⟩:∃ z,ns[st+j]?=some z:=⟨_,Yy2 (by lia)⟩;refine⟨_,rfl,_,rfl,a,_,_,_,rfl,rfl,s4.seq hS,ZN (n:=st+j) (by lia) (ZW4 hz),_,_,rfl,rfl,⟨by decide,by decide,by decide⟩,_,_,rfl,rfl,P18,?_⟩;refine⟨_,rfl,tA,_,rfl,.inl (SqL.of h4),_,rfl,_,_,rfl,rfl,_,rfl,?_⟩;rw[Zz5];refine itd2 (λhc=>?_) (λhc=>?_)
   .refine⟨_,rfl,.inl ⟨rfl,_,SqL.of h4⟩,_,rfl,tA,_,_,rfl,rfl,h4,Zr (by rw[Zz5];lia),?_⟩;rw[<- Zd1];exact⟨fs++[_],_,_,rfl,Zs htA s4,Zz1,by rw[Yy5];show fs.length+1<=m;lia⟩
   .have x0:0<=((st:Int)+(j:Int)) % (m:Int):=Y0z _ (by lia);have x1:((st:Int)+(j:Int)) % (m:Int)<(m:Int):=Y0o _ M0
    obtain⟨f,hf⟩:∃ f,fs[(((st:Int)+(j:Int)) % (m:Int)).toNat]?=some f:=⟨_,Yy2 (by lia)⟩;refine⟨_,rfl,_,rfl,_,rfl,_,_,rfl,rfl,M0,tA,_,_,.int f,rfl,rfl,SqL.of h4,ZN (n:=(((st:Int)+(j:Int)) % (m:Int)).toNat) (by show _=((st:Int)+(j:Int)) % (m:Int);lia) (ZW4 hf),_,_,rfl,rfl,.inr ⟨by decide,by decide⟩,_,rfl,_,_,rfl,rfl,_,_,rfl,rfl,⟨by decide,by decide,by decide⟩,_,_,rfl,rfl,P18,?_⟩;refine⟨_,rfl,_,rfl,_,rfl,_,_,rfl,rfl,M0,tA,_,_,(((st:Int)+(j:Int)) % (m:Int)).toNat,rfl,rfl,h4,?_,?_⟩
    .rw[Zz5];unfold ixN;rw[if_pos x0,if_pos (by grind)]
    .refine⟨fs.set (((st:Int)+(j:Int)) % (m:Int)).toNat ((f * 10007+z % 10 ^ (18:Int).toNat) % 10 ^ (18:Int).toNat),_,_,rfl,Zs htA s4,?_,by rwa[Y0y]⟩;rw[Zz1];exact YZ (λl=>some (HO.lst l)) (List.map_set ..).symm
  rintro σ H4 ⟨fs,v4,v5,rfl,s4,h4,eg⟩;exact⟨_,rfl,q tA fs H4 s4 htA h4 eg⟩
def spZL:Sp:=λvs H Q _=>∃(c mp mt:Int),vs=[.int c,.int mp,.int mt]/\1<=mp/\mp<=14/\0<=mt/\mt<=30 /\
 ∀(r l:Addr) (n:Int) (xs:List V) (ps:Aa) (H':Hp),Same H H'->H' r=some (.tup [.int n,.ref l])->H l=none->H' l=some (.lst xs)->PairsV H' xs ps->Zy n ps->n<=mp->(ps.length:Int)<=mt->Q (.ref r) H'
theorem scZL:FnScope ["cell","most_places","most_ties","places","whole","ties","rest","k"] ["cell","most_places","most_ties"] (Zz4 sZL):=⟨rfl,rfl,rfl,by decide +kernel,rfl,by decide +kernel,by decide +kernel⟩
theorem okZL (T:Txt K mg t):FnOk P w K mg base CX0 2 t.aZL t.dZL ["cell","most_places","most_ties"] spZL:=by
 refine T.fZL.ok scZL (λvs H Q E h=>?_) (λcdv A outer s H vs Q E hr h=>?_)
 .obtain⟨c,mp,mt,rfl,_⟩:=h;rfl
 .obtain⟨c,mp,mt,rfl,p1,p14,t0,t30,q⟩:=h;refine⟨_,(Zz2 (Ze (i:=3) scZL.nd rfl (Or.inl rfl) (Zp Zo1 Zz8 (Zp ZF (pv 0) (pv 1))))
   (Zz2 (Ze (i:=4) scZL.nd rfl (Or.inl rfl) (Zp ZI1 (pv 0) (pv 1)))
   (Zz2 (Ze (i:=5) scZL.nd rfl (Or.inl rfl) (Zz Zz3))
   (Zz2 (Ze (i:=6) scZL.nd rfl (Or.inl rfl) (Zp ZI1 (pv 4) (Zp Zo1 (pv 2) Zz8)))
   (Zz2 (ZX YX rfl (Zj1 rfl T.n_range (Zz0 (Zp ZF (pv 4) (Zp Zo1 (pv 2) Zz8)) Zz3)) (Zc (i:=7) scZL.nd rfl (Or.inl rfl))
   (Zz2 (Ze1 (Zi (ZJ12 K) (pv 6) (Zz (Zz0 Zz8 (Zz0 (Zz18 ZS2 Zz8) Zz3))) rfl)
   (Zz6 (ZC (Zq1 K YL Y0b Y0a ZV (pv 5) (Zz0 (ZE (Zz0 (Zp ZF (Za (okZJ T) (hr.mono (by decide)) rfl T.mZJ T.fZJ.kp T.bZJ .nil ZJ (Zz0 (pv 4) (Zz0 (Zp Zx2 Zz8 (pv 7)) Zz3))) (pv 3)) (Zz0 (Zp ZF (Za (okZJ T) (hr.mono (by decide)) rfl T.mZJ T.fZJ.kp T.bZJ .nil ZJ (Zz0 (pv 4) (Zz0 (Zp Zo1 (Zp Zx2 Zz8 (pv 7)) Zz8) Zz3))) (pv 3)) Zz3))) Zz3))))
   (Zz6 (ZC (Zq1 K YL Y0b Y0a ZV (pv 5) (Zz0 (ZE (Zz0 (Zp ZF (pv 6) (pv 3)) (Zz0 (Zp ZF (Zp ZI1 (pv 6) (pv 3)) (pv 3)) Zz3))) Zz3)))))
   (Zz6 (Ze (i:=6) scZL.nd rfl (Or.inl rfl) (Zp ZI1 (pv 6) (Zp Zx2 (pv 3) (pv 3)))))))
   (Zz6 (Zk (ZE (Zz0 (pv 3) (Zz0 (pv 5) Zz3)))))))))),?_⟩
  have two:2<=sizeLine:=by decide
  have c0:0<=c % mp:=Y0z _ (by lia);have c1:c % mp<mp:=Y0o _ (by lia)
  refine⟨_,rfl,_,rfl,_,_,rfl,rfl,(by show 0<mp;omega),_,_,rfl,rfl,?_⟩;refine⟨_,rfl,_,rfl,_,_,rfl,rfl,⟨by show 0<mp;omega,by show mp<1073741824;lia⟩,?_⟩;refine⟨Yl _,λl hl=>?_⟩;refine⟨_,rfl,_,rfl,_,_,rfl,rfl,_,_,rfl,rfl,⟨by show 0<mt+1;lia,by show mt+1<1073741824;lia⟩,?_⟩;have e0:0<=c / mp % (mt+1):=Y0z _ (by lia)
  have e1:c / mp % (mt+1)<mt+1:=Y0o _ (by omega);obtain⟨n,hn⟩:∃ n,n=1+c % mp:=⟨_,rfl⟩;have n1:1<=n:=by lia
  have n14:n<=mp:=by lia
  have nn1:0<n * n:=Int.mul_pos (by grind) (by omega);have nn2:n * n<=14 * 14:=Int.mul_le_mul (by grind) (by omega) (by grind) (by decide)
  refine⟨_,rfl,_,rfl,_,_,rfl,rfl,_,_,rfl,rfl,(by show 0<mt+1;lia),c / mp % (mt+1),rfl,by lia,by lia,ZP1 (lo:=0) (n:=(c / mp % (mt+1)).toNat) (λi σ H2=>∃(z:Int) (xs:List V) (ps:Aa) (v:Option V),σ=[some (.int c),some (.int mp),some (.int mt),some (.int n),some (.int (c / mp)),some (.ref l),some (.int z),v]/\Same H H2/\H2 l=some (.lst xs)/\PairsV H2 xs ps/\ps.length=i/\∀ p∈ps,0<=p.1/\p.1<n/\0<=p.2/\p.2<n)
   ⟨_,[],[],none,by rw[hn];rfl,same_at hl,Zz1,PairsV.nil,rfl,λ_ h=>(by cases h)⟩ ?_ ?_⟩
  .rintro i σ H2 hi ⟨z,xs,ps,v,rfl,s2,h2,hP,hlp,hb⟩;have xl:xs.length<sizeLine:=Zr (by rw[hP.1];lia)
   have put:∀(a b zz:Int) (H3:Hp) (tp:Addr) (vv:Option V),Same H2 H3->H3 tp=none->0<=a->a<n->0<=b->b<n->∃(z:Int) (xs2:List V) (ps:Aa) (v:Option V),[some (.int c),some (.int mp),some (.int mt),some (.int n),some (.int (c / mp)),some (.ref l),some (.int zz),vv]=[some (.int c),some (.int mp),some (.int mt),some (.int n),some (.int (c / mp)),some (.ref l),some (.int z),v]/\Same H (upd (upd H3 tp (.tup [.int a,.int b])) l (.lst (xs++[.ref tp])))/\(upd (upd H3 tp (.tup [.int a,.int b])) l (.lst (xs++[.ref tp]))) l=some (.lst xs2)/\PairsV (upd (upd H3 tp (.tup [.int a,.int b])) l (.lst (xs++[.ref tp]))) xs2 ps/\ps.length=i+1/\∀ p∈ps,0<=p.1/\p.1<n/\0<=p.2/\p.2<n:=by
    intro a b zz H3 tp vv s3 htp a0 a1 b0 b1;have s4:=same_at (o:=.tup [.int a,.int b]) htp
    have hl4:=s4 _ _ (s3 _ _ h2);refine⟨zz,xs++[.ref tp],ps++[(a,b)],vv,rfl,Zs hl ((s2.trans s3).trans s4),Zz1,?_,by rw[Yy5,hlp];rfl,λp hp=>?_⟩
    .exact(((hP.same s3).same s4).snoc ⟨tp,rfl,Zz1⟩).mut hl4
    .rcases Ya.mp hp with h | h
     .exact hb p h
     .rw[Yy1.mp h];exact⟨a0,a1,b0,b1⟩
   have md:∀ z:Int,0<=z % n/\z % n<n:=λz=>⟨Y0z _ (by lia),Y0o _ (by grind)⟩;have N0:(0:Int)<n:=by omega
   have ND:(0:Int)<n/\n<1073741824:=by grind
   have NN:(0:Int)<n * n/\n * n<1073741824:=by grind
   have NM:-(2 ^ 64)<n/\n<2 ^ 64:=by grind
   refine⟨_,rfl,_,rfl,two,λlp hlp=>?_⟩;have s3:=same_at (o:=.lst [.int 0,.int (-1)]) hlp
   refine⟨lp,_,rfl,.inl (SqL.of Zz1),rfl,rfl,_,rfl,?_⟩;have h3:=s3 _ _ h2
   refine itb (λ_=>?_) (λ_=>?_)
   .refine⟨_,rfl,.inl ⟨rfl,_,SqL.of h3⟩,?_⟩;refine⟨_,rfl,_,rfl,_,_,rfl,rfl,.inl ⟨by decide,by decide⟩,_,_,rfl,λr1 _ _=>⟨_,rfl,_,_,rfl,rfl,N0,?_⟩⟩;refine⟨_,rfl,_,rfl,_,_,rfl,rfl,.inl ⟨by decide,by decide⟩,_,_,rfl,rfl,_,_,rfl,λr2 _ _=>⟨_,rfl,_,_,rfl,rfl,N0,two,λtp htp=>?_⟩⟩;refine⟨l,xs,_,rfl,rfl,(same_at htp) _ _ h3,xl,?_⟩;refine⟨_,rfl,_,rfl,_,rfl,_,_,rfl,rfl,.inl NM,_,_,rfl,rfl,NN,?_⟩;exact put _ _ _ _ tp _ s3 htp (md _).1 (md _).2 (md _).1 (md _).2
   .refine⟨_,rfl,.inl ⟨rfl,_,SqL.of h3⟩,?_⟩;refine⟨_,rfl,_,rfl,_,_,rfl,rfl,N0,_,rfl,_,rfl,_,_,rfl,rfl,ND,_,rfl,_,_,rfl,rfl,N0,two,λtp htp=>?_⟩;refine⟨l,xs,_,rfl,rfl,(same_at htp) _ _ h3,xl,?_⟩;refine⟨_,rfl,_,rfl,_,rfl,_,_,rfl,rfl,.inl NM,_,_,rfl,rfl,NN,?_⟩;exact put _ _ _ _ tp _ s3 htp (md _).1 (md _).2 (md _).1 (md _).2
  .rintro σ H2 ⟨z,xs,ps,v,rfl,s2,h2,hP,hlp,hb⟩;refine⟨_,rfl,_,rfl,two,λr hr=>?_⟩;have s3:=same_at (o:=.tup [.int n,.ref l]) hr
   exact q r l n xs ps _ (s2.trans s3) Zz1 hl (s3 _ _ h2) (hP.same s3) ⟨by grind,by grind,by grind,hb⟩ (by grind) (by lia)
def spZM(K:Ad):Sp:=λvs H Q _=>∃(a:Addr) (ns:Ac) (mp:Int) (mt:Nat),vs=[.ref a,.int mp,.int mt]/\SqL K H a (IL ns)/\ns.length<=63/\1<=mp/\mp<=14/\1<=mt/\mt<=30 /\
 ∀(r l:Addr) (n:Int) (xs:List V) (ps:Aa) (H':Hp),Same H H'->H' r=some (.tup [.int n,.ref l])->H l=none->H' l=some (.lst xs)->PairsV H' xs ps->Zy n ps->n<=mp->(ps.length:Int)<=mt->Q (.ref r) H'
theorem scZM:FnScope ["script","most_places","most_ties","head","places","ties","k","number","one","other"] ["script","most_places","most_ties"] (Zz4 sZM):=⟨rfl,rfl,rfl,by decide +kernel,rfl,by decide +kernel,by decide +kernel⟩
theorem okZM (T:Txt K mg t):FnOk P w K mg base CX0 3 t.aZM t.dZM ["script","most_places","most_ties"] (spZM K):=by
 refine T.fZM.ok scZM (λvs H Q E h=>?_) (λcdv A outer s H vs Q E hr h=>?_)
 .obtain⟨a,ns,mp,mt,rfl,_⟩:=h;rfl
 .obtain⟨a,ns,mp,mt,rfl,hS,hn63,p1,p14,t1,t30,q⟩:=h;refine⟨_,(Zz2 (Ze (i:=3) scZM.nd rfl (Or.inl rfl) (Za (okZI T) (hr.mono (by decide)) rfl T.mZI T.fZI.kp T.bZI .nil ZJ (Zz0 (pv 0) (Zz0 Zz8 Zz3))))
   (Zz2 (Ze1 (Zi Zz33 (Zp ZF (pv 3) Zz8) Zz8 (Zq _))
   (Zz6 (Zk (Za (okZL T) (hr.mono (by decide)) rfl T.mZL T.fZL.kp T.bZL .nil ZJ (Zz0 (Za (okZI T) (hr.mono (by decide)) rfl T.mZI T.fZI.kp T.bZI .nil ZJ (Zz0 (pv 0) (Zz0 Zz8 Zz3))) (Zz0 (pv 1) (Zz0 (pv 2) Zz3))))))
   Zm)
   (Zz2 (Ze (i:=4) scZM.nd rfl (Or.inl rfl) (Zp Zo1 Zz8 (Zp ZF (Zp ZI1 (pv 3) Zz8) (pv 1))))
   (Zz2 (Ze (i:=5) scZM.nd rfl (Or.inl rfl) (Zz Zz3))
   (Zz2 (ZX YX rfl (Zz02 K rfl T.n_enumerate (Zz0 (Za (okZK T) (hr.mono (by decide)) rfl T.mZK T.fZK.kp T.bZK .nil ZJ (Zz0 (pv 0) (Zz0 Zz8 (Zz0 (pv 2) Zz3)))) Zz3)) (Zz51 (n:=2) K rfl (Zl (Zc (i:=6) scZM.nd rfl (Or.inl rfl)) (Zl (Zc (i:=7) scZM.nd rfl (Or.inl rfl)) Zz41)))
   (Zz2 (Ze (i:=8) scZM.nd rfl (Or.inl rfl) (Zp ZF (Za (okZJ T) (hr.mono (by decide)) rfl T.mZJ T.fZJ.kp T.bZJ .nil ZJ (Zz0 (pv 7) (Zz0 Zz8 Zz3))) (pv 4)))
   (Zz2 (Ze (i:=9) scZM.nd rfl (Or.inl rfl) (Zp ZF (Za (okZJ T) (hr.mono (by decide)) rfl T.mZJ T.fZJ.kp T.bZJ .nil ZJ (Zz0 (pv 7) (Zz0 Zz8 Zz3))) (pv 4)))
   (Zz2 (Ze1 (PW.pt (ZJ10 (Zi ZM5 (Zp Zo1 (pv 6) Zz8) (pv 4) (Zq _)) (ZZ7 (Zi ZX10 (Zp ZF (Za (okZJ T) (hr.mono (by decide)) rfl T.mZJ T.fZJ.kp T.bZJ .nil ZJ (Zz0 (pv 7) (Zz0 Zz8 Zz3))) Zz8) Zz8 (Zq _)))))
   (Zz2 (Ze (i:=8) scZM.nd rfl (Or.inl rfl) (Zp ZF (Za (okZJ T) (hr.mono (by decide)) rfl T.mZJ T.fZJ.kp T.bZJ .nil ZJ (Zz0 (pv 7) (Zz0 Zz8 Zz3))) (Zp Zo1 (pv 6) Zz8)))
   (Zz6 (Ze (i:=9) scZM.nd rfl (Or.inl rfl) (Zp Zo1 (pv 6) Zz8))))
   Zm)
   (Zz6 (ZC (Zq1 K YL Y0b Y0a ZV (pv 5) (Zz0 (ZL (Zj K) (Zz (Zz0 (ZE (Zz0 (pv 8) (Zz0 (pv 9) Zz3))) (Zz0 (ZE (Zz0 (pv 9) (Zz0 (pv 8) Zz3))) Zz3))) (Zp ZF (Za (okZJ T) (hr.mono (by decide)) rfl T.mZJ T.fZJ.kp T.bZJ .nil ZJ (Zz0 (pv 7) (Zz0 Zz8 Zz3))) Zz8) (λ_ _=>rfl)) Zz3))))))))
   (Zz6 (Zk (ZE (Zz0 (pv 4) (Zz0 (pv 5) Zz3)))))))))),?_⟩
  have two:2<=sizeLine:=by decide
  refine⟨_,rfl,a,ns,0,rfl,hS,by decide,λhd=>?_⟩;refine⟨_,rfl,_,_,rfl,rfl,(by show(0:Int)<2;decide),rfl,_,rfl,?_⟩;rw[Zw];refine itd2 (λ_=>?_) (λ_=>?_)
  .exact⟨_,rfl,a,ns,1,rfl,hS,by decide,λc=>⟨_,rfl,_,rfl,c,mp,mt,rfl,p1,p14,by lia,by lia,q⟩⟩
  have c0:0<=hd / 2 % mp:=Y0z _ (by lia);have c1:hd / 2 % mp<mp:=Y0o _ (by lia)
  refine⟨_,rfl,_,_,rfl,rfl,⟨by decide,by decide⟩,_,rfl,_,_,rfl,rfl,(by show 0<mp;omega),_,_,rfl,rfl,?_⟩;obtain⟨n,hn⟩:∃ n,n=1+hd / 2 % mp:=⟨_,rfl⟩;have n1:1<=n:=by lia
  have n14:n<=mp:=by lia
  have N0:(0:Int)<n:=by grind
  refine⟨Yl _,λl hl=>?_⟩;have s0:=same_at (o:=.lst []) hl
  refine⟨_,rfl,_,rfl,a,ns,1,mt,rfl,s0.seq hS,hn63,by decide,t1,t30,λm ms H1 s1 hm0 hm1 hml=>?_⟩;have s01:=s0.trans s1
  have nml:m≠l:=λe=>by rw[e,Zz1]at hm0;cases hm0
  refine⟨m,rfl,⟨_,SqL.of hm1⟩,?_⟩;refine ZG3 (K:=K) (a:=m) (xs:=IL ms) (λi σ H2=>∃(xs:List V) (ps:Aa) (v6 v7 v8 v9:Option V),σ=[some (.ref a),some (.int mp),some (.int mt),some (.int hd),some (.int n),some (.ref l),v6,v7,v8,v9]/\Same H H2/\H2 m=some (.lst (IL ms))/\H2 l=some (.lst xs)/\PairsV H2 xs ps/\ps.length=i/\∀ p∈ps,0<=p.1/\p.1<n/\0<=p.2/\p.2<n)
   ⟨[],[],none,none,none,none,by rw[hn];rfl,s01,hm1,s1 _ _ Zz1,PairsV.nil,rfl,λ_ h=>(by cases h)⟩ (λi σ H2 _ h=>by obtain⟨_,_,_,_,_,_,_,_,h,_⟩:=h;exact SqL.of h) ?_ ?_
  .rintro i x σ H2 pt hpt hi ⟨xs,ps,v6,v7,v8,v9,rfl,s2,hm2,h2,hP,hlp,hb⟩;obtain⟨k,rfl,hk⟩:=Zb1 hi;have hi30:=(Yy3.mp hk).1
   have xl:xs.length<sizeLine:=Zr (by rw[hP.1];lia);have s3:=same_at (o:=.tup [.int i,.int k]) hpt
   have md:∀ z:Int,0<=z % n/\z % n<n:=λz=>⟨Y0z _ (by lia),Y0o _ (by grind)⟩;refine⟨pt,_,rfl,SqT.of Zz1,rfl,_,_,rfl,_,_,rfl,rfl,?_⟩;generalize upd H2 pt (.tup [.int i,.int k])=H3 at *;have h3:=s3 _ _ h2
   refine⟨_,rfl,_,_,rfl,λr1 _ _=>⟨_,rfl,_,_,rfl,rfl,N0,?_⟩⟩;refine⟨_,rfl,_,_,rfl,λr2 _ _=>⟨_,rfl,_,_,rfl,rfl,N0,?_⟩⟩;refine nm ?_;refine ZP5 ?_;refine ZO13 (λσ H4=>∃(o1 o2:Int),σ=[some (.ref a),some (.int mp),some (.int mt),some (.int hd),some (.int n),some (.ref l),some (.int i),some (.int k),some (.int o1),some (.int o2)]/\H4=H3/\0<=o1/\o1<n/\0<=o2/\o2<n) ?_ ?_
   .rintro σ H4 ⟨o1,o2,rfl,rfl,a0,a1,b0,b1⟩;refine⟨_,rfl,.inl ⟨rfl,_,SqL.of h3⟩,_,rfl,_,rfl,two,λt1 ht1=>⟨_,rfl,_,rfl,two,λt2 ht2=>⟨two,λpl hpl=>?_⟩⟩⟩;have y1:=same_at (o:=.tup [.int o1,.int o2]) ht1
    have y2:=same_at (o:=.tup [.int o2,.int o1]) ht2;have y3:=same_at (o:=.lst [.ref t1,.ref t2]) hpl
    have hx1:=y3 _ _ (y2 _ _ (Zz1 (H:=H4) (a:=t1) (o:=.tup [.int o1,.int o2])));have hx2:=y3 _ _ (Zz1 (a:=t2) (o:=.tup [.int o2,.int o1]))
    have hx3:(upd (upd (upd H4 t1 (.tup [.int o1,.int o2])) t2 (.tup [.int o2,.int o1])) pl (.lst [.ref t1,.ref t2])) pl=some (.lst [.ref t1,.ref t2]):=Zz1;have y13:=(y1.trans y2).trans y3
    generalize upd (upd (upd H4 t1 (.tup [.int o1,.int o2])) t2 (.tup [.int o2,.int o1])) pl (.lst [.ref t1,.ref t2])=H5 at *;refine⟨_,rfl,_,_,rfl,λu u0 u1=>?_⟩;obtain⟨tt,p,hidx,htt,hp⟩:∃(tt:Addr) (p:Int × Int),atI ([.ref t1,.ref t2]:List V) (u % 2)=some (.ref tt)/\H5 tt=some (.tup [.int p.1,.int p.2])/\(0<=p.1/\p.1<n/\0<=p.2/\p.2<n):=by
     rcases(by lia:u % 2=0\/u % 2=1) with e | e <;> rw[e]
     .exact⟨t1,(o1,o2),rfl,hx1,a0,a1,b0,b1⟩
     .exact⟨t2,(o2,o1),rfl,hx2,b0,b1,a0,a1⟩
    refine⟨_,_,rfl,rfl,(by show(0:Int)<2;decide),pl,_,_,.ref tt,rfl,rfl,SqL.of hx3,hidx,l,xs,_,rfl,rfl,y13 _ _ h3,xl,?_⟩;have s35:=(s2.trans s3).trans y13
    refine⟨xs++[.ref tt],ps++[p],_,_,_,_,rfl,Zs hl s35,?_,Zz1,?_,by rw[Yy5,hlp];rfl,λp' hp'=>?_⟩
    .rw[Zz9 nml];exact y13 _ _ (s3 _ _ hm2)
    .exact(((hP.same s3).same y13).snoc ⟨tt,rfl,htt⟩).mut (y13 _ _ h3)
    .rcases Ya.mp hp' with h | h
     .exact hb p' h
     .rw[Yy1.mp h];exact hp
   .intro Kn hK;have alt:Kn [some (.ref a),some (.int mp),some (.int mt),some (.int hd),some (.int n),some (.ref l),some (.int i),some (.int k),some (.int (r1 % n)),some (.int (r2 % n))] H3:=hK _ _ ⟨_,_,rfl,rfl,(md _).1,(md _).2,(md _).1,(md _).2⟩
    refine⟨_,rfl,_,_,rfl,rfl,_,rfl,_,_,rfl,rfl,_,rfl,?_⟩;refine itd2 (λhc=>?_) (λhc=>alt);refine⟨_,rfl,_,_,rfl,λr3 _ _=>⟨_,_,rfl,rfl,(by show(0:Int)<8;decide),_,_,rfl,rfl,_,rfl,?_⟩⟩;refine itd2 (λhc2=>?_) (λhc2=>alt);have I0:(0:Int)<(i:Int)+1:=by lia
    have g0:∀ z:Int,0<=z % ((i:Int)+1)/\z % ((i:Int)+1)<(i:Int)+1:=λz=>⟨Y0z _ (by lia),Y0o _ I0⟩;refine⟨_,rfl,_,_,rfl,λr4 _ _=>⟨_,rfl,_,_,rfl,rfl,_,_,rfl,rfl,I0,?_⟩⟩;refine⟨_,rfl,_,_,rfl,rfl,?_⟩;exact hK _ _ ⟨r4 % ((i:Int)+1),(i:Int)+1,rfl,rfl,(g0 r4).1,by have:=(g0 r4).2;grind,by lia,by grind⟩
  .rintro σ H2 ⟨xs,ps,v6,v7,v8,v9,rfl,s2,hm2,h2,hP,hlp,hb⟩;refine⟨_,rfl,_,rfl,two,λr hr=>?_⟩;have s3:=same_at (o:=.tup [.int n,.ref l]) hr
   rw[Zz5]at hlp;exact q r l n xs ps _ (s2.trans s3) Zz1 hl (s3 _ _ h2) (hP.same s3) ⟨by grind,by grind,by lia,hb⟩ (by grind) (by lia)
def PhV(n:Nat)(ps:Aa)(H:Hp)(x:V)(l:Ac):Prop:=∃ t p h,x=.ref t/\H t=some (.tup [.ref p,.ref h])/\H p=some (.tup (IL l))/\H h=some (.tup (IL (lms n (Zz7 ps l))))
theorem PhV.same{n:Nat}{ps:Aa}{H H':Hp}{x:V}{l:Ac}(s:Same H H')(h:PhV n ps H x l):PhV n ps H' x l:=by obtain⟨t,p,q,e,h1,h2,h3⟩:=h;exact⟨t,p,q,e,s _ _ h1,s _ _ h2,s _ _ h3⟩
theorem PhV.mut{n:Nat}{ps:Aa}{H:Hp}{d:Addr}{ys zs:List V}{x:V}{l:Ac}(h:PhV n ps H x l)(hd:H d=some (.lst ys)):PhV n ps (upd H d (.lst zs)) x l:=by obtain⟨t,p,q,e,h1,h2,h3⟩:=h;exact⟨t,p,q,e,by rw[Zz9 (Zb4 h1 hd (λz=>nomatch z))];exact h1,by rw[Zz9 (Zb4 h2 hd (λz=>nomatch z))];exact h2,by rwa[Zz9 (Zb4 h3 hd (λz=>nomatch z))]⟩
theorem ZE11{ps:Aa}{z:Int}{p:Int × Int}(h:ps[z.toNat]?=some p):Zu ps z=(p.1.toNat,p.2.toNat):=by unfold Zu;rw[getD_of h]
def spZN(K:Ad):Sp:=λvs H Q _=>∃(n:Int) (a:Addr) (xs:List V) (ps:Aa),vs=[.int n,.ref a]/\SqL K H a xs/\PairsV H xs ps/\Zy n ps/\n<=6/\ps.length<=12 /\
 ∀(r:Addr) (ys:List V) (L:Ab) (H':Hp),Same H H'->H r=none->H' r=some (.lst ys)->TupsV H' ys L->L.length<=300000->(∀ l,l∈L↔Zf n ps l)->L.Pairwise lexS->Q (.ref r) H'
theorem scZN:FnScope ["places","ties","told","k","longer","part","heads","tie","one","other","joined_heads"] ["places","ties"] (Zz4 sZN):=⟨rfl,rfl,rfl,by decide +kernel,rfl,by decide +kernel,by decide +kernel⟩
theorem okZN (T:Txt K mg t):FnOk P w K mg base CX0 1 t.aZN t.dZN ["places","ties"] (spZN K):=by
 refine T.fZN.ok scZN (λvs H Q E h=>?_) (λcdv A outer s H vs Q E hr h=>?_)
 .obtain⟨n,a,xs,ps,rfl,_⟩:=h;rfl
 .obtain⟨n,a,xs,ps,rfl,hA,hP,hG,n6,p12,q⟩:=h;refine⟨_,(Zz2 (Ze (i:=2) scZN.nd rfl (Or.inl rfl) (Zz (Zz0 (ZE (Zz0 (ZE Zz3) (Zz0 (Zn (Zw1 rfl) (by rfl) T.n_tuple Boot.«tuple» (Zz0 (Zn ZM2 (by rfl) T.n_range Boot.«range» (Zz0 (pv 0) Zz3)) Zz3)) Zz3))) Zz3)))
   (Zz2 (ZX YX rfl (Zj1 rfl T.n_range (Zz0 (Zp Zw3 (pv 0) Zz8) Zz3)) (Zc (i:=3) scZN.nd rfl (Or.inl rfl))
   (Zz2 (Ze (i:=4) scZN.nd rfl (Or.inl rfl) (Zz Zz3))
   (Zz2 (ZX YX rfl (ZY K (pv 2)) (Zz51 (n:=2) K rfl (Zl (Zc (i:=5) scZN.nd rfl (Or.inl rfl)) (Zl (Zc (i:=6) scZN.nd rfl (Or.inl rfl)) Zz41)))
   (Zz6 (ZX YX rfl (Zz54 rfl T.n_range (Zz0 (Zp Zo1 (Zd (ZU6 K rfl) (by rfl) T.n_max Boot.«max» (Zz0 (Zp (Zz48 K) (ZE (Zz0 (Zz18 ZS2 Zz8) Zz3)) (pv 5)) Zz3)) Zz8) (Zz0 (Zd (Zh K) (by rfl) T.n_len Boot.«len» (Zz0 (pv 1) Zz3)) Zz3))) (Zc (i:=7) scZN.nd rfl (Or.inl rfl))
   (Zz2 (Ze (i:=8) scZN.nd rfl (Or.inr rfl) (ZL (ZD K) (pv 6) (ZL (ZD K) (ZL (Zj K) (pv 1) (pv 7) (λ_ _=>rfl)) Zz8 (λ_ _=>rfl)) (λ_ _=>rfl)))
   (Zz2 (Ze (i:=9) scZN.nd rfl (Or.inr rfl) (ZL (ZD K) (pv 6) (ZL (ZD K) (ZL (Zj K) (pv 1) (pv 7) (λ_ _=>rfl)) Zz8 (λ_ _=>rfl)) (λ_ _=>rfl)))
   (Zz6 (Ze1 (Zi Ze9 (pv 8) (pv 9) (Zq _))
   (Zz2 (Ze (i:=10) scZN.nd rfl (Or.inl rfl) (Zn (Zz65 K) (by rfl) T.n_tuple Boot.«tuple» (Zz0 (ZP4 rfl (sc0:=Zz4 sZN) (N0:=["places","ties","told","k","longer","part","heads","tie","one","other","joined_heads"]) (N':=["head","other","one"]) (o:=1) (fr:=[9,8]) ⟨rfl,by decide +kernel,by decide +kernel,by decide +kernel,rfl,by decide +kernel⟩ (ZY1 K (pv 6)) (ZK (by decide)) (λ_ _ _ _=>(Zc (i:=0) (show List.Nodup (["head","other","one"]:List Str) by decide +kernel) rfl (Or.inl rfl))) (λ_ _ _ _=>ZS) (λ_ _ _ _=>(Zv3 (Zi Zz33 (pv 0) (pv 1) (Zq _)) (pv 2) (pv 0)))) Zz3)))
   (Zz6 (ZC (Zq1 K YL Y0b Y0a ZV (pv 4) (Zz0 (ZE (Zz0 (Zp (Zz48 K) (pv 5) (ZE (Zz0 (pv 7) Zz3))) (Zz0 (pv 10) Zz3))) Zz3)))))
   Zm)))))))
   (Zz6 (Ze (i:=2) scZN.nd rfl (Or.inl rfl) (pv 4))))))
   (Zz6 (Zk (ZP4 rfl (sc0:=Zz4 sZN) (N0:=["places","ties","told","k","longer","part","heads","tie","one","other","joined_heads"]) (N':=["part","heads"]) (o:=2) (fr:=[]) ⟨rfl,by decide +kernel,by decide +kernel,by decide +kernel,rfl,by decide +kernel⟩ (ZY K (pv 2)) (Zz22 (ZH (by decide) (ZH (by decide) Zz32))) (λ_ _ _ _=>(Zz51 (n:=2) K rfl (Zl (Zc (i:=0) (show List.Nodup (["part","heads"]:List Str) by decide +kernel) rfl (Or.inl rfl)) (Zl (Zc (i:=1) (show List.Nodup (["part","heads"]:List Str) by decide +kernel) rfl (Or.inl rfl)) Zz41)))) (λ_ _ _ _=>ZS) (λ_ _ _ _=>(pv 0))))))),?_⟩
  obtain⟨g1,g2,g3,g4⟩:=id hG;have hlx:=hP.1
  have one:1<=sizeLine:=by decide
  have two:2<=sizeLine:=by decide
  have big:∀ k:Nat,k<=5->(cmb (ps.length:Int) k).length<=248832:=λk hk=>YD (ZD4 p12 k) (by rcases(by lia:k=0\/k=1\/k=2\/k=3\/k=4\/k=5) with e | e | e | e | e | e <;> rw[e] <;> decide)
  have bigF:∀ k:Nat,k<=5->(frs n.toNat ps k).length<=248832:=λk hk=>YD (Y1C ..) (big k hk);have bh0:∀ H:Hp,Bears (PhV n.toNat ps H) [] []:=λH=>⟨rfl,λi l e=>by simp at e⟩
  refine⟨Yl _,λt0 ht0=>?_⟩;have s0:=same_at (o:=.tup []) ht0
  refine⟨_,rfl,n,rfl,λrg hrg=>⟨rg,0,n,rfl,Zz1,⟨by decide,by decide,by lia,by lia⟩,by lia,λh0 hh0=>?_⟩⟩;have s1:=ZW (o:=.tup ((rngI 0 n).map V.int)) (same_at (o:=.rng 0 n) hrg) hh0
  refine⟨two,λpr hpr=>⟨one,λd0 hd0=>?_⟩⟩;have s2:=same_at (o:=.tup [.ref t0,.ref h0]) hpr
  have s3:=same_at (o:=.lst [.ref pr]) hd0;have e0:(rngI 0 n).map V.int=IL (lms n.toNat (Zz7 ps [])):=by rw[Zz14];rfl
  have f1:=(s2.trans s3) _ _ (Zz1 (a:=h0) (o:=.tup ((rngI 0 n).map V.int)));have hB0:Bears (PhV n.toNat ps (upd (upd (upd (upd (upd H t0 (.tup [])) rg (.rng 0 n)) h0 (.tup ((rngI 0 n).map V.int))) pr (.tup [.ref t0,.ref h0])) d0 (.lst [.ref pr]))) [.ref pr] (frs n.toNat ps 0) :=
   (bh0 _).snoc ⟨pr,t0,h0,rfl,s3 _ _ Zz1,(s1.trans (s2.trans s3)) _ _ Zz1,by rwa[<- e0]⟩
  refine⟨_,rfl,_,_,rfl,rfl,_,rfl,by lia,by omega,ZP1 (lo:=0) (n:=(n - 1).toNat) (λi σ H2=>∃(d:Addr) (ys:List V) (v3 v4 v5 v6 v7 v8 v9 v10:Option V),σ=[some (.int n),some (.ref a),some (.ref d),v3,v4,v5,v6,v7,v8,v9,v10]/\Same H H2/\H2 d=some (.lst ys)/\Bears (PhV n.toNat ps H2) ys (frs n.toNat ps i))
   ⟨d0,[.ref pr],none,none,none,none,none,none,none,none,rfl,s0.trans (s1.trans (s2.trans s3)),Zz1,hB0⟩ ?_ ?_⟩
  .rintro i σ H2 hi ⟨d,ys,v3,v4,v5,v6,v7,v8,v9,v10,rfl,s2,hd,hB⟩;have hi5:i<5:=by lia
   refine⟨Yl _,λe he=>?_⟩;have s3:=same_at (o:=.lst []) he
   refine⟨_,rfl,d,rfl,⟨_,SqL.of (s3 _ _ hd)⟩,ZC1 (K:=K) (a:=d) (xs:=ys) (λj σ H4=>∃(zs:List V) (v5 v6 v7 v8 v9 v10:Option V),σ=[some (.int n),some (.ref a),some (.ref d),some (.int (0+(i:Int))),some (.ref e),v5,v6,v7,v8,v9,v10]/\Same H2 H4/\H4 e=some (.lst zs)/\Bears (PhV n.toNat ps H4) zs (((frs n.toNat ps i).take j).flatMap λl=>(ext1 (ps.length:Int) l).filter (Fr n.toNat ps)))
    ⟨[],_,_,_,_,_,_,rfl,s3,Zz1,bh0 _⟩ (λj σ H4 _ ⟨_,_,_,_,_,_,_,_,e,_⟩=>SqL.of (e _ _ hd)) ?_ ?_⟩
   .rintro j v σ H4 hj ⟨zs,v5,v6,v7,v8,v9,v10,rfl,s4,he4,hZ⟩;obtain⟨l,hl,tt,pA,hA',rfl,htt,hpA,hhA⟩:=hB.at hj;obtain⟨ll,hI,hFr⟩:=Zw11 (Yy8 hl);have hnx:nxt l<=12/\0<=nxt l:=by
     unfold nxt;cases q:l.getLast? with
     | none=>exact⟨by show(0:Int)<=12;decide,Y0G 0⟩
     | some x=>have:=hI.all x (Y1b q);exact⟨by show x+1<=12;lia,by show 0<=x+1;lia⟩
    have zl:∀(w:Ab) (zs:List V),w.length<=12->zs.length<=(((frs n.toNat ps i).take j).flatMap λl=>(ext1 (ps.length:Int) l).filter (Fr n.toNat ps)).length+w.length->zs.length<sizeLine:=λw zs hw h=>by
     have h1:(((frs n.toNat ps i).take j).flatMap λl=>(ext1 (ps.length:Int) l).filter (Fr n.toNat ps)).length<=248832:=by
      have h2:(((frs n.toNat ps i).take j).flatMap λl=>(ext1 (ps.length:Int) l).filter (Fr n.toNat ps)).length<=(frs n.toNat ps (i+1)).length:=by
       rw[Zo6]
       conv=>rhs;rw[<- List.take_append_drop j (frs n.toNat ps i),List.flatMap_append,Yy5]
       exact Y2c _ _
      exact YD h2 (bigF (i+1) (by lia))
     exact Zr (by lia)
    refine⟨tt,_,rfl,SqT.of (s4 _ _ htt),rfl,_,_,rfl,_,_,rfl,rfl,?_⟩;have hpA4:=s4 _ _ hpA
    have hhA4:=s4 _ _ hhA;refine⟨_,rfl,one,λm1 hm1=>?_⟩;have u1:=same_at (o:=.tup [.int (-1)]) hm1
    refine⟨_,rfl,m1,pA,_,_,rfl,rfl,Zz1,u1 _ _ hpA4,Zk2 (by rw[Zz5];show 1+_<=_;lia),λr1 H5 u2 hr1=>?_⟩;have s5:=u1.trans u2
    refine⟨r1,-1 :: l,rfl,SqT.of hr1,Nat.succ_pos _,λmx hx1 hx2=>?_⟩;have hmx:=Zz811 hI hx1 hx2
    have s25:=s4.trans s5;refine⟨_,_,rfl,rfl,_,rfl,a,xs,rfl,.inl ((s2.trans s25).seq hA),mx+1,(xs.length:Int),rfl,⟨by lia,by lia,by lia,by lia⟩,?_⟩;have he5:=s5 _ _ he4
    refine ZP1 (lo:=mx+1) (n:=((xs.length:Int) - (mx+1)).toNat) (λq σ H6=>∃(zs:List V) (v7 v8 v9 v10:Option V),σ=[some (.int n),some (.ref a),some (.ref d),some (.int (0+(i:Int))),some (.ref e),some (.ref pA),some (.ref hA'),v7,v8,v9,v10]/\Same H2 H6/\H6 e=some (.lst zs)/\Bears (PhV n.toNat ps H6) zs ((((frs n.toNat ps i).take j).flatMap λl=>(ext1 (ps.length:Int) l).filter (Fr n.toNat ps))++((List.range q).map λ(t:Nat)=>l++[nxt l+(t:Int)]).filter (Fr n.toNat ps)))
     ⟨zs,_,_,_,_,rfl,s25,he5,by rw[List.range_zero,Y2T,Yy13,YO];exact hZ.imp λ_ _ h=>h.same s5⟩ ?_ ?_
    .rintro q' σ H6 hq ⟨zs,v7,v8,v9,v10,rfl,s6,he6,hZ⟩;obtain⟨z,hz⟩:∃ z:Int,z=mx+1+(q':Int):=⟨_,rfl⟩;rw[<- hz];have zb:0<=z/\z<(ps.length:Int):=by lia
     have hzn:nxt l+(q':Int)=z:=by grind
     have sH6:=s2.trans s6;obtain⟨p,hp⟩:∃ p,ps[z.toNat]?=some p:=⟨_,Yy2 (by grind)⟩;obtain⟨vv,hvv,tz,rfl,htz⟩:=hP.2 _ p hp;have htz6:=sH6 _ _ htz
     obtain⟨b1,b2,b3,b4⟩:=g4 p (Yy8 hp);have hpA6:=s6 _ _ hpA
     have hhA6:=s6 _ _ hhA;have lL:(lms n.toNat (Zz7 ps l)).length=n.toNat:=Zv _ _
     have eo:=ZE11 hp;have lsn:lms n.toNat (Zz7 ps (l++[z]))=lm (lms n.toNat (Zz7 ps l)) p.1.toNat p.2.toNat:=by rw[ZQ,eo,ZZ]
     have frz:=fr_snoc (n:=n.toNat) (ps:=ps) (l:=l) (z:=z);rw[eo]at frz;generalize lms n.toNat (Zz7 ps l)=M at *;have iA:atI (IL M) p.1=some (.int (mk M p.1.toNat)):=ZN (n:=p.1.toNat) (by lia) (ZW4 (ZJ1 (by grind)))
     have iB:atI (IL M) p.2=some (.int (mk M p.2.toNat)):=ZN (n:=p.2.toNat) (by lia) (ZW4 (ZJ1 (by grind)));have hat:atI xs z=some (.ref tz):=ZN (n:=z.toNat) (by lia) hvv
     refine⟨_,rfl,_,rfl,_,rfl,a,xs,z,.ref tz,rfl,rfl,sH6.seq hA,hat,tz,_,0,.int p.1,rfl,rfl,SqT.of htz6,rfl,hA',_,p.1,_,rfl,rfl,SqT.of hhA6,iA,?_⟩;refine⟨_,rfl,_,rfl,_,rfl,a,xs,z,.ref tz,rfl,rfl,sH6.seq hA,hat,tz,_,1,.int p.2,rfl,rfl,SqT.of htz6,rfl,hA',_,p.2,_,rfl,rfl,SqT.of hhA6,iB,?_⟩;refine⟨_,rfl,_,rfl,rfl,_,rfl,?_⟩;rw[Zw];have lst:((List.range (q'+1)).map λ(t:Nat)=>l++[nxt l+(t:Int)]).filter (Fr n.toNat ps)=((List.range q').map λ(t:Nat)=>l++[nxt l+(t:Int)]).filter (Fr n.toNat ps)++(if Fr n.toNat ps (l++[z])=true then [l++[z]] else []):=by
      rw[Y0L,YC,Yy04];refine YZ _ ?_;show List.filter _ [l++[nxt l+(q':Int)]]=_
      rw[hzn,Y0B];rfl
     refine itn2 (λheq=>?_) (λhne=>?_)
     .refine⟨zs,_,_,_,_,rfl,s6,he6,?_⟩;rwa[lst,if_neg (λh=>(frz.mp h).2 heq),YO]
     have hFz:Fr n.toNat ps (l++[z])=true:=frz.mpr ⟨hFr,hne⟩;refine⟨_,rfl,hA',rfl,⟨_,SqT.of hhA6⟩,Zt9 (K:=K) (a:=hA') (xs:=IL M) (λw us H7=>H7=H6/\w<=M.length/\us=IL ((M.take w).map λk=>if k=mk M p.2.toNat then mk M p.1.toNat else k)) ⟨rfl,Yl _,rfl⟩ (Zr (by rw[Zz5];grind))
      (λw us H7 hw ⟨e,hw2,ey⟩=>⟨e ▸ SqT.of hhA6,by rw[ey,Zz5,Yc,YI];lia⟩) ?_ ?_⟩
     .rintro w v us H7 hw ⟨rfl,hwl,rfl⟩ S hSS;obtain⟨y,rfl,hy⟩:=Zb1 hw;have hwl':=(Yy3.mp hy).1
      have app:∀ v:Int,v=(if y=mk M p.2.toNat then mk M p.1.toNat else y)->IL ((M.take w).map λk=>if k=mk M p.2.toNat then mk M p.1.toNat else k)++[.int v]=IL ((M.take (w+1)).map λk=>if k=mk M p.2.toNat then mk M p.1.toNat else k):=λv hv=>by rw[YS,hy,YC,hv];exact(Zd1 _ _).symm
      refine nm ?_;refine⟨_,rfl,_,rfl,rfl,_,rfl,?_⟩;rw[Zw];refine itd2 (λhc=>?_) (λhc=>?_)
      .exact⟨_,rfl,hSS _ _ ⟨rfl,hwl',app _ (by rw[if_pos hc])⟩⟩
      .exact⟨_,rfl,hSS _ _ ⟨rfl,hwl',app _ (by rw[if_neg hc])⟩⟩
     rintro us H7 ⟨rfl,_,rfl⟩ la hla;rw[Zz5,QP];have elm:(M.map λk=>if k=mk M p.2.toNat then mk M p.1.toNat else k)=lms n.toNat (Zz7 ps (l++[z])):=by rw[lsn];unfold lm;rw[if_pos hne]
     have w1:=same_at (o:=.lst (IL (M.map λk=>if k=mk M p.2.toNat then mk M p.1.toNat else k))) hla;refine⟨la,_,rfl,.inr (SqL.of Zz1),λjA H8 w2 hjA=>?_⟩;have w12:=w1.trans w2
     have he8:=w12 _ _ he6;refine⟨_,rfl,.inl ⟨rfl,_,SqL.of he8⟩,_,rfl,_,rfl,one,λp2 hp2=>?_⟩;have w3:=same_at (o:=.tup [.int z]) hp2
     refine⟨pA,p2,_,_,rfl,rfl,(w12.trans w3) _ _ hpA6,Zz1,Zk2 (by rw[Zz5];show _+1<=_;lia),λr3 H9 w4 hr3=>?_⟩;have w14:=w12.trans (w3.trans w4)
     refine⟨_,rfl,two,λtn htn=>?_⟩;have w5:=same_at (o:=.tup [.ref r3,.ref jA]) htn
     have w15:=w14.trans w5;have he10:=w15 _ _ he6
     have xl:zs.length<sizeLine:=zl (((List.range q').map λ(t:Nat)=>l++[nxt l+(t:Int)]).filter (Fr n.toNat ps)) zs (by
      have h1:(((List.range q').map λ(t:Nat)=>l++[nxt l+(t:Int)]).filter (Fr n.toNat ps)).length<=q':=by refine YD (Y1C ..) ?_;rw[Yc,YK];exact Yy6 _
      lia) (by rw[hZ.1,Yy5];exact Yy6 _)
     refine⟨e,zs,_,rfl,rfl,he10,xl,?_⟩;have heN:H2 e=none:=he
     refine⟨zs++[.ref tn],_,_,_,_,rfl,Zs heN (s6.trans w15),Zz1,?_⟩;rw[lst,if_pos hFz,<- Yy09];have hn:PhV n.toNat ps (upd H9 tn (.tup [.ref r3,.ref jA])) (.ref tn) (l++[z]):=⟨tn,r3,jA,rfl,Zz1,by rw[w5 _ _ hr3,Zd1],by rw[<- elm];exact(w3.trans (w4.trans w5)) _ _ hjA⟩
     exact((hZ.imp λ_ _ h=>h.same w15).snoc hn).imp λ_ _ h=>h.mut he10
    .rintro σ H6 ⟨zs,v7,v8,v9,v10,rfl,s6,he6,hZ⟩;refine⟨zs,_,_,_,_,_,_,rfl,s6,he6,?_⟩;rw[ZB7 hl];have ee:ext1 (ps.length:Int) l=(List.range ((xs.length:Int) - (mx+1)).toNat).map λ(t:Nat)=>l++[nxt l+(t:Int)]:=by unfold ext1;rw[hmx,hlx]
     rwa[ee]
   .rintro σ H4 ⟨zs,v5,v6,v7,v8,v9,v10,rfl,s4,he4,hZ⟩;refine⟨_,rfl,e,zs,_,_,_,_,_,_,_,_,rfl,s2.trans s4,he4,?_⟩;rw[hB.1,QP]at hZ;rwa[Zo6]
  .rintro σ H2 ⟨d,ys,v3,v4,v5,v6,v7,v8,v9,v10,rfl,s2,hd,hB⟩;have yl:ys.length<=248832:=by rw[hB.1];exact bigF _ (by lia)
   refine⟨_,rfl,d,rfl,⟨_,SqL.of hd⟩,Zz83 (K:=K) (a:=d) (xs:=ys) (λi ws H3=>H3=H2/\i<=ys.length/\TupsV H2 ws ((frs n.toNat ps (n - 1).toNat).take i)) ⟨rfl,Yl _,TupsV.nil⟩ (Zr (by lia))
    (λi ws H3 hi ⟨e,hi2,ey⟩=>⟨e ▸ SqL.of hd,by rw[ey.1,YI];lia⟩) ?_ ?_⟩
   .rintro i v ws H3 hi ⟨rfl,hil,hW⟩ S hSS;obtain⟨l,hl,tt,pA,hA',rfl,htt,hpA,hhA⟩:=hB.at hi;have hil':i<ys.length:=(Yy3.mp hi).1
    refine⟨tt,_,rfl,SqT.of htt,rfl,_,_,rfl,_,_,rfl,rfl,?_⟩;refine⟨_,rfl,hSS _ _ ⟨rfl,hil',?_⟩⟩;rw[YS,hl];exact hW.snoc ⟨pA,rfl,hpA⟩
   .rintro ws H3 ⟨rfl,_,hW⟩ p hp;rw[hB.1,QP]at hW;refine q p ws _ _ (s2.trans (same_at hp)) (s2.free hp) Zz1 (hW.same (same_at hp)) ?_ (λl=>Zn6 hG) ((ZO6 _ _).sublist Y2t)
    have:=bigF (n - 1).toNat (by lia)
    lia
def dueK(d:Int)(g j:Bool):Nat:=if g=false then 0 else if d=0 then 1 else if d=1 then (if j=true then 5 else 2) else if d<=4 then 3 else if d=5 then 4 else 5
def spZO(K:Ad)(C Pt R B Pa N S:Addr):Sp:=λvs H Q E=>∃(w b o:Addr) (n:Int) (ps:Aa) (ls od:Ac) (z d:Int) (g j:Bool),vs=[.int d,.ref w,.ref b,.ref o,.int z]/\WebAt C H w n ps/\Zy n ps/\SqL K H b (IL ls)/\SqL K H o (IL od)/\¬ IsSet ps.length od/\-(10 ^ 70)<z/\z<10 ^ 70/\(∃ c:Nat,TC n ps c/\(0<=z->(c:Int)<=z))/\TabR H Pt/\0<=d/\d<8/\(g=true↔ls.length=ps.length)/\(j=true↔∃ U,Zf n ps U) /\
 (dueK d g j=5->∀(v:V) (H':Hp),SameX Pt H H'->TabR H' Pt->Q v H')/\(dueK d g j=0->E (.ref R) none H)/\(dueK d g j=1->E (.ref B) none H)/\(dueK d g j=2->∀ H':Hp,Same H H'->E (.ref Pa) none H')/\(dueK d g j=3->∀ H':Hp,Same H H'->E (.ref N) none H')/\(dueK d g j=4->∀ H':Hp,Same H H'->E (.ref S) none H')
theorem scZO:FnScope ["deed","web","lengths","odd","number"] ["deed","web","lengths","odd","number"] (Zz4 sZO):=⟨rfl,rfl,rfl,by decide +kernel,rfl,by decide +kernel,by decide +kernel⟩
theorem okZO {Pt:Addr} (T:Txt K mg t) (hB:Zz912 K mg base t.dZH Pt):FnOk P w K mg base (CXW P w) 11 t.aZO t.dZO ["deed","web","lengths","odd","number"] (spZO K t.A_Web Pt t.A_BadRow t.A_BadSet t.A_Parted t.A_NoTree t.A_NoSuch):=by
 refine T.fZO.okX scZO (λvs H Q E h=>?_) (λcdv A outer s H vs Q E hr h=>?_)
 .obtain⟨w,b,o,n,ps,ls,od,z,d,g,j,rfl,_⟩:=h;rfl
 .obtain⟨w,b,o,n,ps,ls,od,z,d,g,j,rfl,hW,hG,hS,hO,hno,z0,z1,hz,hT,d0,d8,hg,hj,q5,q0,q1,q2,q3,q4⟩:=h;refine⟨_,(Zz2 (Ze1 (Zi Zz33 (pv 0) Zz8 (Zq _))
   (Zz6 (Zk (Za (okZx T) (hr.mono (by decide)) rfl T.mZx T.fZx.kp T.bZx .nil pxs (Zz0 (pv 1) (Zz0 (pv 2) (Zz0 (pv 3) Zz3))))))
   Zm)
   (Zz2 (Ze1 (Zi Zz33 (pv 0) Zz8 (Zq _))
   (Zz6 (Zk (Za (okZz T) (hr.mono (by decide)) rfl T.mZz T.fZz.kp T.bZz .nil pxs (Zz0 (pv 1) (Zz0 (pv 2) Zz3)))))
   Zm)
   (Zz2 (Ze1 (Zi Zz33 (pv 0) Zz8 (Zq _))
   (Zz6 (Zk (Za (okZA T) (hr.mono (by decide)) rfl T.mZA T.fZA.kp T.bZA .nil pxs (Zz0 (pv 1) (Zz0 (pv 2) (Zz0 (pv 3) Zz3))))))
   Zm)
   (Zz2 (Ze1 (Zi Zz33 (pv 0) Zz8 (Zq _))
   (Zz6 (Zk (Za (okZB T) (hr.mono (by decide)) rfl T.mZB T.fZB.kp T.bZB .nil pxs (Zz0 (pv 1) (Zz0 (pv 2) (Zz0 (pv 3) Zz3))))))
   Zm)
   (Zz2 (Ze1 (Zi Zz33 (pv 0) Zz8 (Zq _))
   (Zz6 (Zk (Za (okZE T) (hr.mono (by decide)) rfl T.mZE T.fZE.kp T.bZE .nil pxs (Zz0 (pv 1) (Zz0 (pv 2) (Zz0 (pv 3) Zz3))))))
   Zm)
   (Zz2 (Ze1 (Zi Zz33 (pv 0) Zz8 (Zq _))
   (Zz6 (Zk (Za (okZD T) (hr.mono (by decide)) rfl T.mZD T.fZD.kp T.bZD .nil pxs (Zz0 (pv 1) (Zz0 (pv 2) (Zz0 (pv 4) Zz3))))))
   Zm)
   (Zz2 (Ze1 (Zi Zz33 (pv 0) Zz8 (Zq _))
   (Zz6 (Zk (Za (okZC T) (hr.mono (by decide)) rfl T.mZC T.fZC.kp T.bZC .nil pxs (Zz0 (pv 1) (Zz0 (pv 2) Zz3)))))
   Zm)
   (Zz6 (Zk (Za (okZH T hB) (hr.mono (by decide)) rfl T.mZH T.fZH.kp T.bZH .nil pxs (Zz0 (pv 1) (Zz0 (pv 2) (Zz0 Zz8 Zz3))))))))))))),?_⟩
  have g3:=hG.2.2.1;have nt:¬ Zf n ps od:=λh=>hno h.1
  have ntc:¬ Zf n (cwT n.toNat ps ls) od:=λh=>hno (by have:=h.1;rwa [Zd3]at this);have tcl:ls.length=ps.length->∀ c:Nat,TC n (cwT n.toNat ps ls) c->0<=z->(c:Int)<=z:=λhl c hc h=>by
   obtain⟨c2,⟨L2,_,m2,rfl⟩,hz⟩:=hz;obtain⟨L1,n1,m1,rfl⟩:=hc
   have:=ZF1 n1 λx hx=>(m2 x).mpr ((ZS9 hG hl).mp ((m1 x).mp hx)).1
   have:=hz h
   lia
  have k0:ls.length≠ps.length->dueK d g j=0:=λh=>by
   have:g=false:=by cases g with
    | false=>rfl
    | true=>exact absurd (hg.mp rfl) h
   rw[this];rfl
  have kg:ls.length=ps.length->dueK d g j=if d=0 then 1 else if d=1 then (if j=true then 5 else 2) else if d<=4 then 3 else if d=5 then 4 else 5:=λh=>by rw[hg.mpr h];rfl
  refine⟨_,rfl,rfl,_,rfl,?_⟩;rw[Zw];refine itd2 (λe=>?_) (λn0=>?_)
  .refine⟨_,rfl,_,rfl,_,rfl,w,b,o,n,ps,false,false,ls,od,rfl,hW,g3,hS,hO,λ_ h=>absurd h hno,λh=>q0 (k0 h),λh _=>q1 (by rw[kg h,if_pos e])⟩
  show(_:Prop);refine ZP5 ?_;refine⟨_,rfl,rfl,_,rfl,?_⟩;rw[Zw];refine itd2 (λe=>?_) (λn1=>?_)
  .refine⟨_,rfl,_,rfl,w,b,n,ps,ls,rfl,hW,hG,hS,λh ex v H1 s1=>?_,λh no H1 s1=>?_,λh=>q0 (k0 h)⟩
   .have hjt:j=true:=hj.mpr ((ZA8 hG h).mpr ex);exact q5 (by rw[kg h,if_neg n0,if_pos e,if_pos hjt]) v H1 (SameX.same s1) (hT.same s1)
   .have hjf:¬ j=true:=λhjt=>by obtain⟨U,hU⟩:=(ZA8 hG h).mp (hj.mp hjt);exact no U hU
    exact q2 (by rw[kg h,if_neg n0,if_pos e,if_neg hjf]) H1 s1
  show(_:Prop);refine ZP5 ?_;refine⟨_,rfl,rfl,_,rfl,?_⟩;rw[Zw];refine itd2 (λe=>?_) (λn2=>?_)
  .exact⟨_,rfl,_,rfl,_,rfl,w,b,o,n,ps,false,false,ls,od,rfl,hW,hG,hS,hO,nt,λh=>q0 (k0 h),λh=>q3 (by rw[kg h,if_neg n0,if_neg n1,if_pos (by lia)])⟩
  show(_:Prop);refine ZP5 ?_;refine⟨_,rfl,rfl,_,rfl,?_⟩;rw[Zw];refine itd2 (λe=>?_) (λn3=>?_)
  .exact⟨_,rfl,_,rfl,_,rfl,w,b,o,n,ps,false,false,ls,od,rfl,hW,hG,hS,hO,nt,λh=>q0 (k0 h),λh=>q3 (by rw[kg h,if_neg n0,if_neg n1,if_pos (by lia)])⟩
  show(_:Prop);refine ZP5 ?_;refine⟨_,rfl,rfl,_,rfl,?_⟩;rw[Zw];refine itd2 (λe=>?_) (λn4=>?_)
  .exact⟨_,rfl,_,rfl,_,rfl,w,b,o,n,ps,ls,false,od,rfl,hW,hG,hS,hO,ntc,λh=>q3 (by rw[kg h,if_neg n0,if_neg n1,if_pos (by lia)]),λh=>q0 (k0 h)⟩
  show(_:Prop);refine ZP5 ?_;refine⟨_,rfl,rfl,_,rfl,?_⟩;rw[Zw];refine itd2 (λe=>?_) (λn5=>?_)
  .exact⟨_,rfl,_,rfl,_,rfl,w,b,n,ps,ls,z,rfl,hW,hG,hS,z0,z1,tcl,λh=>q4 (by rw[kg h,if_neg n0,if_neg n1,if_neg (by lia),if_pos e]),λh=>q0 (k0 h)⟩
  show(_:Prop);refine ZP5 ?_;refine⟨_,rfl,rfl,_,rfl,?_⟩;rw[Zw];have k5:ls.length=ps.length->dueK d g j=5:=λh=>by rw[kg h,if_neg n0,if_neg n1,if_neg (by lia),if_neg n5]
  refine itd2 (λe=>?_) (λn6=>?_)
  .exact⟨_,rfl,_,rfl,w,b,n,ps,ls,rfl,hW,hG,hS,λh c H1 s1=>q5 (k5 h) _ H1 (SameX.same s1) (hT.same s1),λh=>q0 (k0 h)⟩
  show(_:Prop);refine ZP5 ?_;exact⟨_,rfl,_,rfl,w,b,n,5,ps,false,ls,rfl,hW,hG,hS,by decide,by decide,hT,λh ys L r H1 _ _ sx tab _ _=>q5 (k5 h) _ H1 sx tab,λh=>q0 (k0 h)⟩
def dueS:Nat->Str
 | 0=>"row"
 | 1=>"set"
 | 2=>"parted"
 | 3=>"tree"
 | 4=>"number"
 | _=>"told"
theorem ZG11(d:Int)(g j:Bool):dueK d g j<=5:=by
 unfold dueK
 repeat' split
 all_goals decide
def nm6:List Str:=["row","set","parted","tree","number","other"]
def pck(bs:List Bool)(i:Nat):List Str:=(((nm6.zip bs).take i).filter λp=>p.2).map λp=>p.1
theorem Zc9{bs:List Bool}{i:Nat}{x:Str}{y:Bool}(h1:nm6[i]?=some x)(h2:bs[i]?=some y):pck bs (i+1)=pck bs i++if y=true then [x] else []:=by
 unfold pck;have e:(nm6.zip bs)[i]?=some (x,y):=Yy39.mpr ⟨h1,h2⟩
 rw[YS,e,Yy04,YC];cases y <;> rfl
def spZP(K:Ad)(C Pt:Addr):Sp:=λvs H Q _=>∃(w b o:Addr) (n:Int) (ps:Aa) (ls od:Ac) (z d:Int) (g j:Bool),vs=[.int d,.ref w,.ref b,.ref o,.int z]/\WebAt C H w n ps/\Zy n ps/\SqL K H b (IL ls)/\SqL K H o (IL od)/\¬ IsSet ps.length od/\-(10 ^ 70)<z/\z<10 ^ 70/\(∃ c:Nat,TC n ps c/\(0<=z->(c:Int)<=z))/\TabR H Pt/\0<=d/\d<8/\(g=true↔ls.length=ps.length)/\(j=true↔∃ U,Zf n ps U) /\
 ∀ H':Hp,SameX Pt H H'->TabR H' Pt->Q (.str (dueS (dueK d g j))) H'
theorem scZP:FnScope ["deed","web","lengths","odd","number","kinds","e","names"] ["deed","web","lengths","odd","number"] (Zz4 sZP):=⟨rfl,rfl,rfl,by decide +kernel,rfl,by decide +kernel,by decide +kernel⟩
theorem okZP {Pt:Addr} (T:Txt K mg t) (hB:Zz912 K mg base t.dZH Pt):FnOk P w K mg base CX0 12 t.aZP t.dZP ["deed","web","lengths","odd","number"] (spZP K t.A_Web Pt):=by
 refine T.fZP.ok scZP (λvs H Q E h=>?_) (λcdv A outer s H vs Q E hr h=>?_)
 .obtain⟨w,b,o,n,ps,ls,od,z,d,g,j,rfl,_⟩:=h;rfl
 .obtain⟨w,b,o,n,ps,ls,od,z,d,g,j,rfl,hW,hG,hS,hO,hno,z0,z1,hz,hT,d0,d8,hg,hj,q⟩:=h;refine⟨_,(Zz2 (Ze (i:=5) scZP.nd rfl (Or.inl rfl) (Zz Zz3))
   (Zz2 (Zu12 (i:=6) rfl rfl rfl scZP.nd rfl rfl T.c_WebError rfl (λR _=>(Zz6 (ZC (Zb9 (okZO T hB) (hr.mono (by decide)) rfl T.mZO T.fZO.kp T.bZO .nil pxT (Zz0 (pv 0) (Zz0 (pv 1) (Zz0 (pv 2) (Zz0 (pv 3) (Zz0 (pv 4) Zz3))))))))) (λe C oe _ hoe=>(Zz2 (Ze (i:=5) scZP.nd rfl (Or.inl rfl) (Zz (Zz0 (Zd (Zm1 K (Yb _ (Yy1.mpr rfl)) hoe) (by rfl) T.n_isinstance Boot.«isinstance» (Zz0 (pv 6) (Zz0 (Zz12 (v:=V.ref t.A_BadRow) rfl T.c_BadRow rfl) Zz3))) (Zz0 (Zd (Zm1 K (Yb _ (Yy1.mpr rfl)) hoe) (by rfl) T.n_isinstance Boot.«isinstance» (Zz0 (pv 6) (Zz0 (Zz12 (v:=V.ref t.A_BadSet) rfl T.c_BadSet rfl) Zz3))) (Zz0 (Zd (Zm1 K (Yb _ (Yy1.mpr rfl)) hoe) (by rfl) T.n_isinstance Boot.«isinstance» (Zz0 (pv 6) (Zz0 (Zz12 (v:=V.ref t.A_Parted) rfl T.c_Parted rfl) Zz3))) (Zz0 (Zd (Zm1 K (Yb _ (Yy1.mpr rfl)) hoe) (by rfl) T.n_isinstance Boot.«isinstance» (Zz0 (pv 6) (Zz0 (Zz12 (v:=V.ref t.A_NoTree) rfl T.c_NoTree rfl) Zz3))) Zz3))))))
   (Zz6 (Ze (i:=5) scZP.nd rfl (Or.inl rfl) (Zp (Zz94 K) (pv 5) (Zz (Zz0 (Zd (Zm1 K (Yb _ (Yy1.mpr rfl)) hoe) (by rfl) T.n_isinstance Boot.«isinstance» (Zz0 (pv 6) (Zz0 (Zz12 (v:=V.ref t.A_NoSuch) rfl T.c_NoSuch rfl) Zz3))) (Zz0 (ZF12 (Zd (Zm1 K (Yb _ (Yy1.mpr rfl)) hoe) (by rfl) T.n_isinstance Boot.«isinstance» (Zz0 (pv 6) (Zz0 (ZS10 (v:=V.ty "ValueError") rfl T.n_ValueError Boot.«ValueError» rfl) Zz3)))) Zz3)))))))))
   (Zz2 (Ze1 (Zi (ZY10 K (hu8 hr)) (pv 5) (Zz Zz3) (Zq _))
   (Zz6 (Zk ZU))
   Zm)
   (Zz2 (Zz29 (i:=7) rfl scZP.nd rfl rfl (sc0:=Zz4 sZP) (N0:=["deed","web","lengths","odd","number","kinds","e","names"]) (N':=["name","kind"]) (o:=2) (fr:=[]) ⟨rfl,by decide +kernel,by decide +kernel,by decide +kernel,rfl,by decide +kernel⟩ (ZM10 K rfl T.n_zip (Zz0 (Zz (Zz0 ZU (Zz0 ZU (Zz0 ZU (Zz0 ZU (Zz0 ZU (Zz0 ZU Zz3))))))) (Zz0 (pv 5) Zz3))) (Zz22 (ZH (by decide) (ZH (by decide) Zz32))) (λ_ _ _ _=>(Zz51 (n:=2) K rfl (Zl (Zc (i:=0) (show List.Nodup (["name","kind"]:List Str) by decide +kernel) rfl (Or.inl rfl)) (Zl (Zc (i:=1) (show List.Nodup (["name","kind"]:List Str) by decide +kernel) rfl (Or.inl rfl)) Zz41)))) (λ_ _ _ _=>(ZY2 (ZE5 (pv 1)))) (λ_ _ _ _=>(pv 0)))
   (Zz6 (Zk (Zq1 K PySem.F.plainAttrs_str PySem.F.slot_str_join PySem.F.type_str_join (Zj9 K) ZU (Zz0 (pv 7) Zz3)))))))),?_⟩
  refine⟨Yl _,λkl hkl=>?_⟩;have s0:=same_at (o:=.lst []) hkl
  have kk0:=Zz1 (H:=H) (a:=kl) (o:=.lst []);have hT0:=hT.same s0
  refine nm ?_;dsimp only [List.set];generalize upd H kl (.lst [])=H0 at *;refine Zz113 (λσ H1=>∃(ka:Addr) (v6:Option V) (bs:List Bool),σ=[some (.int d),some (.ref w),some (.ref b),some (.ref o),some (.int z),some (.ref ka),v6,none]/\SameX Pt H H1/\TabR H1 Pt/\H1 ka=some (.lst (bs.map V.bl))/\bs=(if dueK d g j=5 then [] else [decide (dueK d g j=0),decide (dueK d g j=1),decide (dueK d g j=2),decide (dueK d g j=3),decide (dueK d g j=4),false])) ?_ ?_;rotate_left
  .intro Kn hK;refine tryX (λσ' C H1=>σ'=[some (.int d),some (.ref w),some (.ref b),some (.ref o),some (.int z),some (.ref kl),none,none]/\Same H0 H1/\PySem.W.exmOne K (.ref C) (.ref t.A_WebError)=some true/\XCls K C/\PySem.W.kitOne K (.ref C) (.type "ValueError")=some true/\dueK d g j≠5/\PySem.W.kitOne K (.ref C) (.ref t.A_BadRow)=some (decide (dueK d g j=0))/\PySem.W.kitOne K (.ref C) (.ref t.A_BadSet)=some (decide (dueK d g j=1))/\PySem.W.kitOne K (.ref C) (.ref t.A_Parted)=some (decide (dueK d g j=2))/\PySem.W.kitOne K (.ref C) (.ref t.A_NoTree)=some (decide (dueK d g j=3))/\PySem.W.kitOne K (.ref C) (.ref t.A_NoSuch)=some (decide (dueK d g j=4))) ?_ ?_
   .rintro σ' C H1 ⟨rfl,s1,em,hX,kv,ne,k0,k1,k2,k3,k4⟩;refine⟨em,λe he=>?_⟩;refine⟨_,rfl,_,_,_,rfl,λz h=>h,hX,k0,_,rfl,_,_,_,rfl,λz h=>h,hX,k1,_,rfl,_,_,_,rfl,λz h=>h,hX,k2,_,rfl,_,_,_,rfl,λz h=>h,hX,k3,(by show 4<=sizeLine;decide),λkk hkk=>?_⟩;have u2:=same_at (o:=.lst [.bl (decide (dueK d g j=0)),.bl (decide (dueK d g j=1)),.bl (decide (dueK d g j=2)),.bl (decide (dueK d g j=3))]) hkk
    have c2:=Zz1 (H:=H1) (a:=kk) (o:=.lst [.bl (decide (dueK d g j=0)),.bl (decide (dueK d g j=1)),.bl (decide (dueK d g j=2)),.bl (decide (dueK d g j=3))]);refine⟨_,rfl,_,rfl,_,_,_,rfl,λz h=>h,hX,k4,_,rfl,_,_,_,rfl,λz h=>h,hX,kv,_,rfl,(by show 2<=sizeLine;decide),λk5 hk5=>?_⟩;have u3:=same_at (o:=.lst [.bl (decide (dueK d g j=4)),.bl false]) hk5
    refine⟨kk,k5,_,_,rfl,rfl,SqL.of (u3 _ _ c2),SqL.of Zz1,(by show 6<=_;decide),λp hp=>?_⟩;have u4:=u2.trans (u3.trans (same_at (o:=.lst ([decide (dueK d g j=0),decide (dueK d g j=1),decide (dueK d g j=2),decide (dueK d g j=3),decide (dueK d g j=4),false].map V.bl)) hp))
    exact hK _ _ ⟨p,none,_,rfl,SameX.same (s0.trans (s1.trans u4)),hT0.same (s1.trans u4),Zz1,by rw[if_neg ne]⟩
   .intro R hR;refine⟨_,rfl,_,rfl,_,rfl,_,rfl,_,rfl,w,b,o,n,ps,ls,od,z,d,g,j,rfl,hW.same s0,hG,s0.seq hS,s0.seq hO,hno,z0,z1,hz,hT0,d0,d8,hg,hj,λe v H1 sx tab=>?_,λe=>?_,λe=>?_,λe H1 s1=>?_,λe H1 s1=>?_,λe H1 s1=>?_⟩
    .exact hK _ _ ⟨kl,none,[],rfl,(SameX.same s0).trans sx,tab,sx _ _ (hT0.ne kk0 (by simp)) kk0,by rw[if_pos e]⟩
    .exact hR _ _ _ ⟨rfl,Same.refl _,T.em_BadRow,T.x_BadRow,T.ki_BadRow_ValueError,by rw[e];decide,by rw[e];exact Zz72,by rw[e];exact T.ki_BadRow_BadSet,by rw[e];exact T.ki_BadRow_Parted,by rw[e];exact T.ki_BadRow_NoTree,by rw[e];exact T.ki_BadRow_NoSuch⟩
    .exact hR _ _ _ ⟨rfl,Same.refl _,T.em_BadSet,T.x_BadSet,T.ki_BadSet_ValueError,by rw[e];decide,by rw[e];exact T.ki_BadSet_BadRow,by rw[e];exact Zz72,by rw[e];exact T.ki_BadSet_Parted,by rw[e];exact T.ki_BadSet_NoTree,by rw[e];exact T.ki_BadSet_NoSuch⟩
    .exact hR _ _ _ ⟨rfl,s1,T.em_Parted,T.x_Parted,T.ki_Parted_ValueError,by rw[e];decide,by rw[e];exact T.ki_Parted_BadRow,by rw[e];exact T.ki_Parted_BadSet,by rw[e];exact Zz72,by rw[e];exact T.ki_Parted_NoTree,by rw[e];exact T.ki_Parted_NoSuch⟩
    .exact hR _ _ _ ⟨rfl,s1,T.em_NoTree,T.x_NoTree,T.ki_NoTree_ValueError,by rw[e];decide,by rw[e];exact T.ki_NoTree_BadRow,by rw[e];exact T.ki_NoTree_BadSet,by rw[e];exact T.ki_NoTree_Parted,by rw[e];exact Zz72,by rw[e];exact T.ki_NoTree_NoSuch⟩
    .exact hR _ _ _ ⟨rfl,s1,T.em_NoSuch,T.x_NoSuch,T.ki_NoSuch_ValueError,by rw[e];decide,by rw[e];exact T.ki_NoSuch_BadRow,by rw[e];exact T.ki_NoSuch_BadSet,by rw[e];exact T.ki_NoSuch_Parted,by rw[e];exact T.ki_NoSuch_NoTree,by rw[e];exact Zz72⟩
  rintro σ H1 ⟨ka,v6,bs,rfl,sx1,tab1,hk1,hbs⟩;have hle:=ZG11 d g j
  generalize dueK d g j=m at *;refine⟨_,rfl,Yl _,λel hel=>⟨1,_,ka,el,rfl,rfl,by decide,ZC7 (bs:=bs) (cs:=[]) (SqL.of (same_at hel _ _ hk1)) (SqL.of Zz1),_,rfl,?_⟩⟩;have u2:=same_at (o:=.lst []) hel
  refine itd2 (λe=>?_) (λne=>?_)
  .have h5:m=5:=by
    by_cases c:m=5
    .exact c
    .rw[if_neg c]at hbs;rw[hbs]at e;cases e
   subst h5;exact q _ (sx1.trans (SameX.same u2)) (tab1.same u2)
  show(_:Prop);refine ZP5 ?_;have h5:m≠5:=λc=>ne (by rw[hbs,if_pos c])
  rw[if_neg h5]at hbs;have hbl:bs.length=6:=by rw[hbs];rfl
  refine⟨(by show 6<=sizeLine;decide),λna hna=>?_⟩;have u3:=same_at (o:=.lst (TL nm6)) hna
  have k3:=Zz1 (H:=upd H1 el (.lst [])) (a:=na) (o:=.lst (TL nm6));have hk3:=(u2.trans u3) _ _ hk1
  have t3:=u2.trans u3;change (_:Prop);refine⟨_,rfl,na,ka,false,rfl,⟨_,_,SqL.of k3,SqL.of hk3⟩,Ze11 (K:=K) (kd:=false) (a:=na) (b:=ka) (xs:=TL nm6) (ys:=bs.map V.bl) (λi zs H4=>Same (upd (upd H1 el (.lst [])) na (.lst (TL nm6))) H4/\zs=TL (pck bs i)/\zs.length<=i) ⟨Same.refl _,rfl,Yy6 _⟩ (by rw[Yc,hbl];rfl) (by show 6<sizeLine;decide) (λi zs H4 _ h=>⟨SqL.of (h.1 _ _ k3),SqL.of (h.1 _ _ hk3),h.2.2⟩) ?_ ?_⟩
  .rintro i x y zs H4 p hp hx hy ⟨s4,rfl,hle2⟩ SS hSS;obtain⟨xs,rfl,hxs⟩:∃ xs:Str,x=.str xs/\nm6[i]?=some xs:=by rw[show TL nm6=nm6.map V.str from rfl,Yp]at hx;obtain⟨a,h1,h2⟩:=Y1u.mp hx;exact⟨a,h2.symm,h1⟩
   obtain⟨yb,rfl,hyb⟩:∃ yb:Bool,y=.bl yb/\bs[i]?=some yb:=by rw[Yp]at hy;obtain⟨a,h1,h2⟩:=Y1u.mp hy;exact⟨a,h2.symm,h1⟩
   have u5:=same_at (o:=.tup [.str xs,.bl yb]) hp;refine⟨p,_,rfl,SqT.of Zz1,rfl,_,_,rfl,_,_,rfl,rfl,?_⟩;have es:=Zc9 hxs hyb
   refine⟨_,rfl,yb,rfl,?_⟩;cases yb with
   | true =>
    rw[if_pos rfl];refine⟨_,rfl,hSS _ _ ⟨s4.trans u5,?_,?_⟩⟩
    .rw[es,if_pos rfl];exact Zl10 _ _
    .rw[Yy5];exact Nat.succ_le_succ hle2
   | false =>
    rw[if_neg (by decide)];refine hSS _ _ ⟨s4.trans u5,?_,by lia⟩;rw[es,if_neg (by decide),YO]
  rintro zs H4 ⟨s4,rfl,_⟩ rl hrl;refine nm ?_;dsimp only [List.set];have t4:=(t3.trans s4).trans (same_at (o:=.lst (TL (pck bs (TL nm6).length))) hrl)
  have ep:pck bs (TL nm6).length=[dueS m]:=by
   rw[hbs]
   have:m=0\/m=1\/m=2\/m=3\/m=4:=by lia
   rcases this with rfl | rfl | rfl | rfl | rfl <;> rfl
  rw[ep];refine⟨rfl,_,rfl," ",rl,[dueS m],rfl,rfl,SqL.of Zz1,?_,?_⟩
  .have:m=0\/m=1\/m=2\/m=3\/m=4:=by lia
   rcases this with rfl | rfl | rfl | rfl | rfl <;> decide
  .rw [show(" ":Str).join [dueS m]=dueS m from by
    have:m=0\/m=1\/m=2\/m=3\/m=4:=by lia
    rcases this with rfl | rfl | rfl | rfl | rfl <;> decide]
   rw[ep]at t4;exact q _ (sx1.trans (SameX.same t4)) (tab1.same t4)
def spZQ(K:Ad)(Pt:Addr):Sp:=λvs H Q _=>∃(a:Addr) (ns:Ac),vs=[.ref a]/\SqL K H a (IL ns)/\ns.length<=63/\TabR H Pt/\∀ H',Q (.bl true) H'
theorem Zs6{K:Ad}{H:Hp}{a b:Addr}{xs:List V}(ha:SqL K H a xs)(hb:SqL K H b xs)(hf:∀ x∈xs,ZP2 x=true):EqD K H 1 (.ref a) (.ref b) true:=by
 have h:=EqD.lsts (n:=0) (e:=λ_=>true) ha hb rfl λi x y hx hy=>by
  rw[hx]at hy;cases hy;have f:=hf x (Yy8 hx)
  have q:=EqD.flat (K:=K) (H:=H) (n:=0) f f;rwa[Zu6 f]at q
 have e:((List.range xs.length).all λ_=>true)=true:=by simp
 rwa[e]at h
theorem ZI5{xs:List V}{i:Int}(h0:0<=i)(h1:i<(xs.length:Int)):∃ v,atI xs i=some v/\v∈xs:=by have h:=Yy2 (show i.toNat<xs.length by lia);exact⟨_,ZN (n:=i.toNat) (by lia) h,Yy8 h⟩
theorem ZG7{l:Ac}(h:1<=l.length):(cutI l none (some (-1))).length=l.length - 1:=by unfold cutI HT.sIx;simp;grind
theorem ZO7(l:List Str):∀ x∈TL l,ZP2 x=true:=λx hx=>by obtain⟨y,_,rfl⟩:=Yx.mp hx;rfl
theorem scZQ:FnScope ["script","places","ties","web","trees","lengths","cell","odd","number","wrong","due"] ["script"] (Zz4 sZQ):=⟨rfl,rfl,rfl,by decide +kernel,rfl,by decide +kernel,by decide +kernel⟩
theorem okZQ {Pt:Addr} (T:Txt K mg t) (hB:Zz912 K mg base t.dZH Pt):FnOk P w K mg base CX0 13 t.aZQ t.dZQ ["script"] (spZQ K Pt):=by
 refine T.fZQ.ok scZQ (λvs H Q E h=>?_) (λcdv A outer s H vs Q E hr h=>?_)
 .obtain⟨a,ns,rfl,_⟩:=h;rfl
 .obtain⟨a,ns,rfl,hS,hn63,hTb,k⟩:=h;refine⟨_,(Zz2 (Zz39 (Za (okZM T) (hr.mono (by decide)) rfl T.mZM T.fZM.kp T.bZM .nil ZJ (Zz0 (pv 0) (Zz0 Zz8 (Zz0 Zz8 Zz3)))) (Zz51 (n:=2) K rfl (Zl (Zc (i:=1) scZQ.nd rfl (Or.inl rfl)) (Zl (Zc (i:=2) scZQ.nd rfl (Or.inl rfl)) Zz41))))
   (Zz2 (Ze (i:=3) scZQ.nd rfl (Or.inr rfl) (Zz28 T.k_Web (okZ8 T) (hr.mono (by decide)) rfl T.c_Web T.bZ8 .nil ZJ (Zz0 (pv 1) (Zz0 (Zn (ZI K) (by rfl) T.n_list Boot.«list» (Zz0 (pv 2) Zz3)) Zz3))))
   (Zz2 (Ze (i:=4) scZQ.nd rfl (Or.inl rfl) (Za (okZN T) (hr.mono (by decide)) rfl T.mZN T.fZN.kp T.bZN .nil ZJ (Zz0 (pv 1) (Zz0 (pv 2) Zz3))))
   (Zz2 (Ze (i:=5) scZQ.nd rfl (Or.inr rfl) (ZP4 rfl (sc0:=Zz4 sZQ) (N0:=["script","places","ties","web","trees","lengths","cell","odd","number","wrong","due"]) (N':=["tie"]) (o:=1) (fr:=[]) ⟨rfl,by decide +kernel,by decide +kernel,by decide +kernel,rfl,by decide +kernel⟩ (Zj1 rfl T.n_range (Zz0 (Zd (Zh K) (by rfl) T.n_len Boot.«len» (Zz0 (pv 2) Zz3)) Zz3)) (ZK (by decide)) (λ_ _ _ _=>(Zc (i:=0) (show List.Nodup (["tie"]:List Str) by decide +kernel) rfl (Or.inl rfl))) (λ_ _ _ _=>ZS) (λ_ _ _ _=>(Zp ZF (pv 0) Zz8))))
   (Zz2 (ZX YX rfl (ZY K (Zp (Zz94 K) (Zz (Zz0 Zz8 Zz3)) (Zh1 (Zg1 K) (pv 0) ZH1 (ZG1 Zz8)))) (Zc (i:=6) scZQ.nd rfl (Or.inl rfl))
   (Zz2 (Ze (i:=7) scZQ.nd rfl (Or.inr rfl) (ZL (Zj K) (Zz (Zz0 (Zz (Zz0 (Zd (Zh K) (by rfl) T.n_len Boot.«len» (Zz0 (pv 2) Zz3)) Zz3)) (Zz0 (Zz (Zz0 (Zp Zw3 (Zz18 ZS2 Zz8) (Zp ZF (pv 6) Zz8)) Zz3)) (Zz0 (Zz (Zz0 Zz8 (Zz0 Zz8 Zz3))) (Zz0 (Zz (Zz0 Zz8 (Zz0 Zz8 Zz3))) Zz3))))) (Zp ZF (pv 6) Zz8) (λ_ _=>rfl)))
   (Zz2 (Ze (i:=8) scZQ.nd rfl (Or.inr rfl) (ZL (Zj K) (Zz (Zz0 (Zz18 ZS2 Zz8) (Zz0 (Zd (Zh K) (by rfl) T.n_len Boot.«len» (Zz0 (pv 4) Zz3)) (Zz0 (Zp Zo1 (Zd (Zh K) (by rfl) T.n_len Boot.«len» (Zz0 (pv 4) Zz3)) (Zp ZF (pv 6) (Zp ZQ4 Zz8 Zz8))) (Zz0 (Zp Zw3 (Zz18 ZS2 Zz8) (Zp ZF (pv 6) Zz8)) Zz3))))) (Zp ZF (Zp ZI1 (pv 6) Zz8) Zz8) (λ_ _=>rfl)))
   (Zz2 (Ze (i:=9) scZQ.nd rfl (Or.inr rfl) (ZL (Zj K) (Zz (Zz0 (Zp (Zz94 K) (pv 5) (Zz (Zz0 (Zp ZF (pv 6) (Zp ZQ4 Zz8 Zz8)) Zz3))) (Zz0 (Zp (Zz94 K) (Zz (Zz0 Zz8 Zz3)) (pv 5)) (Zz0 (Zh1 (Zg1 K) (pv 5) (ZG1 Zz8) ZH1) (Zz0 (Zh1 (Zg1 K) (pv 5) ZH1 (ZG1 (Zz18 ZS2 Zz8))) Zz3))))) (Zp ZF (Zp ZI1 (pv 6) Zz8) Zz8) (λ_ _=>rfl)))
   (Zz2 (Ze1 (Zi Zz33 (Zd (Zh K) (by rfl) T.n_len Boot.«len» (Zz0 (pv 2) Zz3)) Zz8 (Zq _))
   (Zz6 (Ze (i:=9) scZQ.nd rfl (Or.inr rfl) (Zz (Zz0 (Zp ZF (pv 6) (Zp ZQ4 Zz8 Zz8)) Zz3))))
   Zm)
   (Zz2 (Ze1 (Zi (ZK5 K (hu8 hr)) (ZP4 rfl (sc0:=Zz4 sZQ) (N0:=["script","places","ties","web","trees","lengths","cell","odd","number","wrong","due"]) (N':=["deed","web","wrong","odd","number"]) (o:=1) (fr:=[3,9,7,8]) ⟨rfl,by decide +kernel,by decide +kernel,by decide +kernel,rfl,by decide +kernel⟩ (Zj1 rfl T.n_range (Zz0 Zz8 Zz3)) (ZK (by decide)) (λ_ _ _ _=>(Zc (i:=0) (show List.Nodup (["deed","web","wrong","odd","number"]:List Str) by decide +kernel) rfl (Or.inl rfl))) (λ_ _ _ _=>ZS) (λ_ _ _ _=>(Za (okZP T hB) (hr.mono (by decide)) rfl T.mZP T.fZP.kp T.bZP .nil ZJ (Zz0 (pv 0) (Zz0 (pv 1) (Zz0 (pv 2) (Zz0 (pv 3) (Zz0 (pv 4) Zz3)))))))) (Zp Zd9 (Zz (Zz0 ZU Zz3)) Zz8) (Zq _))
   (Zz6 (Zk ZT10))
   Zm)
   (Zz2 (Ze (i:=10) scZQ.nd rfl (Or.inl rfl) (Zz (Zz0 ZU (Zz0 (ZL (Zj K) (Zz (Zz0 ZU (Zz0 ZU Zz3))) (Zn ZK7 (by rfl) T.n_int Boot.«int» (Zz0 (Zz64 ZX10 (Zd (Zh K) (by rfl) T.n_len Boot.«len» (Zz0 (pv 4) Zz3)) Zz8 (Zq _)) Zz3)) (λ_ _=>rfl)) (Zz0 ZU (Zz0 ZU (Zz0 ZU (Zz0 ZU (Zz0 ZU (Zz0 ZU Zz3))))))))))
   (Zz6 (Ze1 (Zi (ZK5 K (hu8 hr)) (ZP4 rfl (sc0:=Zz4 sZQ) (N0:=["script","places","ties","web","trees","lengths","cell","odd","number","wrong","due"]) (N':=["deed","web","lengths","odd","number"]) (o:=1) (fr:=[3,5,7,8]) ⟨rfl,by decide +kernel,by decide +kernel,by decide +kernel,rfl,by decide +kernel⟩ (Zj1 rfl T.n_range (Zz0 Zz8 Zz3)) (ZK (by decide)) (λ_ _ _ _=>(Zc (i:=0) (show List.Nodup (["deed","web","lengths","odd","number"]:List Str) by decide +kernel) rfl (Or.inl rfl))) (λ_ _ _ _=>ZS) (λ_ _ _ _=>(Za (okZP T hB) (hr.mono (by decide)) rfl T.mZP T.fZP.kp T.bZP .nil ZJ (Zz0 (pv 0) (Zz0 (pv 1) (Zz0 (Zn (ZI K) (by rfl) T.n_list Boot.«list» (Zz0 (pv 2) Zz3)) (Zz0 (pv 3) (Zz0 (pv 4) Zz3)))))))) (pv 10) (Zq _))
   (Zz6 (Zk ZT10))
   Zm)))))))))
   (Zz6 (Zk ZT10))))))),?_⟩
  have one:1<=sizeLine:=by decide
  have two:2<=sizeLine:=by decide
  have four:4<=sizeLine:=by decide
  refine⟨_,rfl,a,ns,6,12,rfl,hS,hn63,by decide,by decide,by decide,by decide,λr l n xs ps H1 s1 hr1 hl0 hl1 hP hG hnm hcc=>?_⟩;refine⟨r,_,rfl,SqT.of hr1,rfl,_,_,rfl,_,_,rfl,rfl,?_⟩;have hlx:=hP.1
  obtain⟨g1,g2,g3,g4⟩:=id hG;refine⟨_,rfl,_,rfl,l,_,rfl,.inl (SqL.of hl1),λlc hlc=>?_⟩;have t0:=same_at (o:=.lst xs) hlc
  have hlc2:(upd H1 lc (.lst xs)) lc=some (.lst xs):=Zz1;generalize upd H1 lc (.lst xs)=H2 at *;intro x dx nx ndx nex;have t1:Same H2 (upd (upd H2 dx (.own x)) x (.ins t.A_Web dx [])):=ZW (same_at ndx) (by rwa[Zz9 (YR nex)])
  refine⟨x,dx,n,lc,false,xs,ps,rfl,Zz1,λo=>?_,hP.same (t0.trans t1),hG,λH3 hW k3=>⟨rfl,?_⟩⟩
  .exact SqL.of (by rwa[Zz9 (Zb hlc2 nx),Zz9 (Zb hlc2 nx),Zz9 (Zb hlc2 ndx)])
  have t03:Same H1 H3:=t0.trans λb o e=>k3 b o (t1 b o e) (Zb e nx);have hl3:=t03 _ _ hl1
  have hP3:=hP.same t03;refine⟨_,rfl,_,rfl,n,l,xs,ps,rfl,SqL.of hl3,hP3,hG,by lia,by lia,λTA ys L H4 s4 hT0 hT4 hTL hL3 hmem hasc=>?_⟩;have tc:TC n ps L.length:=⟨L,Zz56 hasc,hmem,rfl⟩
  have hyl:=hTL.1;have hl4:=s4 _ _ hl3
  refine nm ?_;dsimp only [List.set];refine⟨_,rfl,l,xs,rfl,.inl (SqL.of hl4),_,rfl,by lia,by lia,ZB2 (lo:=0) (n:=(xs.length:Int).toNat) (λo zs H5=>H5=H4/\∃ ms:Ac,zs=IL ms/\ms.length=o) ⟨rfl,[],rfl,rfl⟩ (Zr (by lia)) (λo zs H5 _ h=>by obtain⟨_,ms,e,hI⟩:=h;rw[e,Zz5,hI];exact Yy6 _) ?_ ?_⟩
  .rintro o zs H5 ho ⟨rfl,ms,rfl,hI⟩ S hSS;refine nm ?_;refine⟨_,rfl,_,_,rfl,rfl,(by show(0:Int)<3;decide),hSS _ _ ⟨rfl,ms++[_],(Zd1 ..).symm,?_⟩⟩;rw[Yy5,hI];rfl
  rintro zs H5 ⟨rfl,ls,rfl,hll⟩ LA hLA;have hlp:ls.length=ps.length:=by lia
  have u5:=same_at (o:=.lst (IL ls)) hLA;have kL5:=Zz1 (H:=H5) (a:=LA) (o:=.lst (IL ls))
  refine nm ?_;dsimp only [List.set];have s15:=t03.trans (s4.trans u5)
  have sH:=s1.trans s15;have hW5:=hW.same (s4.trans u5)
  have hT5:=u5 _ _ hT4;have hl5:=u5 _ _ hl4
  generalize upd H5 LA (.lst (IL ls))=H6 at *;refine⟨one,λc1 hc1=>⟨_,rfl,_,rfl,a,_,rfl,(sH.trans (same_at hc1)).seq hS,λc2 hc2=>?_⟩⟩;rw[ZJ6];have v1:=same_at (o:=.lst (IL [0])) hc1
  have v2:=same_at (o:=.lst (IL (cutI ns none (some 4)))) hc2;have hcl:=ZV9 ns none (some 4)
  have z1:100000<=sizeLine:=by decide
  refine⟨c1,c2,IL [0],_,rfl,rfl,SqL.of (v2 _ _ Zz1),SqL.of Zz1,(by rw[Zz5,Zz5];show 1+_<=_;lia),λc3 hc3=>?_⟩;rw[show IL [0]++IL (cutI ns none (some 4))=IL ([0]++cutI ns none (some 4)) from(YC ..).symm];generalize [0]++cutI ns none (some 4)=cs at *;have v3:=same_at (o:=.lst (IL cs)) hc3
  have sC:=(v1.trans v2).trans v3;have kC:=Zz1 (H:=upd (upd H6 c1 (.lst (IL [0]))) c2 (.lst (IL (cutI ns none (some 4))))) (a:=c3) (o:=.lst (IL cs))
  change Same H6 (upd (upd (upd H6 c1 (.lst [.int 0])) c2 (.lst (IL (cutI ns none (some 4))))) c3 (.lst (IL cs))) at sC;change (upd (upd (upd H6 c1 (.lst [.int 0])) c2 (.lst (IL (cutI ns none (some 4))))) c3 (.lst (IL cs))) c3=_ at kC;generalize upd (upd (upd H6 c1 (.lst [.int 0])) c2 (.lst (IL (cutI ns none (some 4))))) c3 (.lst (IL cs))=HC at *;have tabC:=hTb.same (sH.trans sC)
  have hWC:=hW5.same sC;have hTC:=sC _ _ hT5
  have hlC:=sC _ _ hl5;have hLC:=sC _ _ kL5
  clear v1 v2 v3 hc1 hc2 hc3;refine⟨c3,rfl,⟨_,SqL.of kC⟩,ZC1 (K:=K) (a:=c3) (xs:=IL cs) (λi σ H7=>∃(v6 v7 v8 v9 v10:Option V),σ=[some (.ref a),some (.int n),some (.ref l),some (.ref x),some (.ref TA),some (.ref LA),v6,v7,v8,v9,v10]/\SameX Pt HC H7/\TabR H7 Pt) ⟨none,none,none,none,none,rfl,SameX.same (Same.refl _),tabC⟩ (λi σ H7 _ h=>by obtain⟨_,_,_,_,_,_,sx,_⟩:=h;exact SqL.of (sx _ _ (tabC.ne kC (by simp)) kC)) ?_ ?_⟩;rotate_left
  .rintro σ H7 ⟨v6,v7,v8,v9,v10,rfl,sx7,tab7⟩;exact k _
  rintro i v σ H7 hi ⟨v6,v7,v8,v9,v10,rfl,sx7,tab7⟩;obtain⟨c,rfl,hc⟩:=Zb1 hi;have hW7:=hWC.samex tabC sx7
  have hT7:=sx7 _ _ (tabC.ne hTC (by simp)) hTC;have hl7:=sx7 _ _ (tabC.ne hlC (by simp)) hlC
  have hL7:=sx7 _ _ (tabC.ne hLC (by simp)) hLC;refine nm ?_;dsimp only [List.set];refine⟨_,rfl,l,xs,rfl,.inl (SqL.of hl7),one,λo1 ho1=>⟨_,rfl,_,rfl,_,_,rfl,rfl,(by show(0:Int)<5;decide),_,_,rfl,rfl,one,λo2 ho2=>⟨two,λo3 ho3=>⟨two,λo4 ho4=>⟨four,λoo hoo=>?_⟩⟩⟩⟩⟩;have m1:=same_at (o:=.lst [.int (xs.length:Int)]) ho1
  have m2:=same_at (o:=.lst [.int (-1 - c % 5)]) ho2;have m3:=same_at (o:=.lst [.int 0,.int 0]) ho3
  have m4:=same_at (o:=.lst [.int 1,.int 0]) ho4;have m5:=same_at (o:=.lst [.ref o1,.ref o2,.ref o3,.ref o4]) hoo
  have j1:=m5 _ _ (m4 _ _ (m3 _ _ (m2 _ _ (Zz1 (H:=H7) (a:=o1) (o:=.lst [.int (xs.length:Int)])))));have j2:=m5 _ _ (m4 _ _ (m3 _ _ (Zz1 (a:=o2) (o:=.lst [.int (-1 - c % 5)]))))
  have j3:=m5 _ _ (m4 _ _ (Zz1 (a:=o3) (o:=.lst [.int 0,.int 0])));have j4:=m5 _ _ (Zz1 (a:=o4) (o:=.lst [.int 1,.int 0]))
  have j5:=Zz1 (a:=oo) (o:=.lst [.ref o1,.ref o2,.ref o3,.ref o4]) (H:=upd (upd (upd (upd H7 o1 (.lst [.int (xs.length:Int)])) o2 (.lst [.int (-1 - c % 5)])) o3 (.lst [.int 0,.int 0])) o4 (.lst [.int 1,.int 0]));have m15:=m1.trans (m2.trans (m3.trans (m4.trans m5)))
  have s78:=m15;generalize upd (upd (upd (upd (upd H7 o1 (.lst [.int (xs.length:Int)])) o2 (.lst [.int (-1 - c % 5)])) o3 (.lst [.int 0,.int 0])) o4 (.lst [.int 1,.int 0])) oo (.lst [.ref o1,.ref o2,.ref o3,.ref o4])=H8 at *;obtain⟨vv,hat,hm⟩:=ZI5 (xs:=[.ref o1,.ref o2,.ref o3,.ref o4]) (i:=c % 4) (by lia) (by show _<(4:Int);lia);refine⟨_,rfl,_,_,rfl,rfl,(by show(0:Int)<4;decide),oo,_,_,vv,rfl,rfl,SqL.of j5,hat,?_⟩;obtain⟨oA,od,rfl,hO,hno⟩:∃ oA od,vv=.ref oA/\H8 oA=some (.lst (IL od))/\¬ IsSet ps.length od:=by
   simp only [Ye,Y1K,or_false]at hm;rcases hm with rfl | rfl | rfl | rfl
   .refine⟨o1,[(xs.length:Int)],rfl,j1,λh=>?_⟩
    have:=h.all _ (Yy1.mpr rfl)
    lia
   .refine⟨o2,[-1 - c % 5],rfl,j2,λh=>?_⟩
    have:=h.all _ (Yy1.mpr rfl)
    lia
   .refine⟨o3,[0,0],rfl,j3,λh=>?_⟩
    have:=(isSet_iff.mp h).2
    simp at this
   .refine⟨o4,[1,0],rfl,j4,λh=>?_⟩
    have:=(isSet_iff.mp h).2
    simp at this
  clear m1 m2 m3 m4 m5 j1 j2 j3 j4 j5 ho1 ho2 ho3 ho4 hoo m15 hat hm;have hT8:=s78 _ _ hT7
  have tab8:=tab7.same s78;refine nm ?_;dsimp only [List.set];refine⟨_,rfl,_,rfl,TA,ys,rfl,.inl (SqL.of hT8),_,rfl,TA,ys,rfl,.inl (SqL.of hT8),_,rfl,_,_,rfl,rfl,⟨by decide,by decide⟩,_,_,rfl,rfl,(by show(0:Int)<10 ^ Int.toNat 40;decide),_,_,rfl,rfl,_,rfl,_,rfl,_,_,rfl,rfl,(by show(0:Int)<9;decide),_,_,rfl,rfl,four,λnn hnn=>?_⟩;have m6:=same_at (o:=.lst [.int (-1),.int (ys.length:Int),.int ((ys.length:Int)+c % 10 ^ Int.toNat 40),.int (-1 - c % 9)]) hnn
  have k6:=Zz1 (H:=H8) (a:=nn) (o:=.lst [.int (-1),.int (ys.length:Int),.int ((ys.length:Int)+c % 10 ^ Int.toNat 40),.int (-1 - c % 9)]);have e40:=Y0z c (by decide:(10:Int) ^ Int.toNat 40≠0)
  have f40:c % 10 ^ Int.toNat 40<10 ^ 40:=Y0o c (by decide);generalize c % 10 ^ Int.toNat 40=c40 at *;obtain⟨vz,hat,hm⟩:=ZI5 (xs:=[.int (-1),.int (ys.length:Int),.int ((ys.length:Int)+c40),.int (-1 - c % 9)]) (i:=c / 4 % 4) (by lia) (by show _<(4:Int);lia);refine⟨_,rfl,_,_,rfl,rfl,⟨by decide,by decide⟩,_,_,rfl,rfl,(by show(0:Int)<4;decide),nn,_,_,vz,rfl,rfl,SqL.of k6,hat,?_⟩;obtain⟨z,rfl,z0,z1,hz⟩:∃ z:Int,vz=.int z/\-(10 ^ 70)<z/\z<10 ^ 70/\(0<=z->(L.length:Int)<=z):=by
   simp only [Ye,Y1K,or_false]at hm;rcases hm with rfl | rfl | rfl | rfl
   .exact⟨_,rfl,by decide,by decide,by lia⟩
   .exact⟨_,rfl,by lia,by lia,by lia⟩
   .exact⟨_,rfl,by lia,by lia,by lia⟩
   .exact⟨_,rfl,by lia,by lia,by lia⟩
  refine nm ?_;dsimp only [List.set];have hO9:=m6 _ _ hO
  have s79:=s78.trans m6;generalize upd H8 nn (.lst [.int (-1),.int (ys.length:Int),.int ((ys.length:Int)+c40),.int (-1 - c % 9)])=H9 at *;clear hat hm hnn k6 m6;have hL9:=s79 _ _ hL7
  refine⟨_,rfl,_,rfl,_,_,rfl,rfl,⟨by decide,by decide⟩,_,_,rfl,rfl,(by show(0:Int)<10 ^ Int.toNat 59;decide),one,λa1 ha1=>?_⟩;have p1:=same_at (o:=.lst [.int (c % 10 ^ Int.toNat 59)]) ha1
  have q1:(upd H9 a1 (.lst [.int (c % 10 ^ Int.toNat 59)])) a1=some (.lst (IL [(c % 10 ^ Int.toNat 59)])):=Zz1;refine⟨LA,a1,IL ls,IL [(c % 10 ^ Int.toNat 59)],rfl,rfl,SqL.of (p1 _ _ hL9),SqL.of q1,(by rw[Zz5,Zz5];show _+1<=_;lia),λw1 hw1=>?_⟩;have p2:=same_at (o:=.lst (IL ls++IL [(c % 10 ^ Int.toNat 59)])) hw1
  refine⟨one,λa2 ha2=>?_⟩;have p3:=same_at (o:=.lst [.int 0]) ha2
  have p13:=p1.trans (p2.trans p3);refine⟨_,rfl,a2,LA,IL [0],IL ls,rfl,rfl,SqL.of Zz1,SqL.of (p13 _ _ hL9),(by rw[Zz5,Zz5];show 1+_<=_;lia),λw2 hw2=>?_⟩;have p4:=same_at (o:=.lst (IL [0]++IL ls)) hw2
  have p14:=p13.trans p4;refine⟨_,rfl,_,rfl,LA,_,rfl,SqL.of (p14 _ _ hL9),λw3 hw3=>?_⟩;have p5:=same_at (o:=.lst (cutV (IL ls) (some 1) none)) hw3
  have p15:=p14.trans p5;refine⟨_,rfl,_,rfl,_,rfl,LA,_,rfl,SqL.of (p15 _ _ hL9),λw4 hw4=>?_⟩;have p6:=same_at (o:=.lst (cutV (IL ls) none (some (-1)))) hw4
  have p16:=p15.trans p6;refine⟨four,λww hww=>?_⟩;have p7:=same_at (o:=.lst [.ref w1,.ref w2,.ref w3,.ref w4]) hww
  have p17:=p16.trans p7;have r1:=p7 _ _ (p6 _ _ (p5 _ _ (p4 _ _ (p3 _ _ (Zz1 (a:=w1) (o:=.lst (IL ls++IL [(c % 10 ^ Int.toNat 59)])))))))
  have r2:=p7 _ _ (p6 _ _ (p5 _ _ (Zz1 (a:=w2) (o:=.lst (IL [0]++IL ls)))));have r3:=p7 _ _ (p6 _ _ (Zz1 (a:=w3) (o:=.lst (cutV (IL ls) (some 1) none))))
  have r4:=p7 _ _ (Zz1 (a:=w4) (o:=.lst (cutV (IL ls) none (some (-1)))));obtain⟨vw,hat,hm⟩:=ZI5 (xs:=[.ref w1,.ref w2,.ref w3,.ref w4]) (i:=c / 16 % 4) (by lia) (by show _<(4:Int);lia);refine⟨_,rfl,_,_,rfl,rfl,⟨by decide,by decide⟩,_,_,rfl,rfl,(by show(0:Int)<4;decide),ww,_,_,vw,rfl,rfl,SqL.of Zz1,hat,?_⟩;obtain⟨wA,wl,rfl,hwA,hwl⟩:∃ wA wl,vw=.ref wA/\(upd (upd (upd (upd (upd (upd (upd H9 a1 (.lst [.int (c % 10 ^ Int.toNat 59)])) w1 (.lst (IL ls++IL [(c % 10 ^ Int.toNat 59)]))) a2 (.lst [.int 0])) w2 (.lst (IL [0]++IL ls))) w3 (.lst (cutV (IL ls) (some 1) none))) w4 (.lst (cutV (IL ls) none (some (-1))))) ww (.lst [.ref w1,.ref w2,.ref w3,.ref w4])) wA=some (.lst (IL wl))/\(ps.length≠0->wl.length≠ps.length):=by
   simp only [Ye,Y1K,or_false]at hm;rcases hm with rfl | rfl | rfl | rfl
   .exact⟨w1,ls++[(c % 10 ^ Int.toNat 59)],rfl,r1.trans (by rw[show IL ls++IL [(c % 10 ^ Int.toNat 59)]=IL (ls++[(c % 10 ^ Int.toNat 59)]) from(YC ..).symm]),λ_=>by rw[Yy5,YB];lia⟩
   .exact⟨w2,[0]++ls,rfl,r2.trans (by rw[show IL [0]++IL ls=IL ([0]++ls) from(YC ..).symm]),λ_=>by rw[Yy5,YB];lia⟩
   .refine⟨w3,cutI ls (some 1) none,rfl,r3.trans (by rw[ZJ6]),λh=>?_⟩;rw[ZH7 (by decide) (by lia),Y1g];show _ - 1≠_
    lia
   .refine⟨w4,cutI ls none (some (-1)),rfl,r4.trans (by rw[ZJ6]),λh=>?_⟩;rw[ZG7 (by lia)];lia
  refine nm ?_;dsimp only [List.set];have hO10:=p17 _ _ hO9
  have s7A:=s79.trans p17;generalize upd (upd (upd (upd (upd (upd (upd H9 a1 (.lst [.int (c % 10 ^ Int.toNat 59)])) w1 (.lst (IL ls++IL [(c % 10 ^ Int.toNat 59)]))) a2 (.lst [.int 0])) w2 (.lst (IL [0]++IL ls))) w3 (.lst (cutV (IL ls) (some 1) none))) w4 (.lst (cutV (IL ls) none (some (-1))))) ww (.lst [.ref w1,.ref w2,.ref w3,.ref w4])=HA at *;clear p1 p2 p3 p4 p5 p6 p7 p13 p14 p15 p16 p17 r1 r2 r3 r4 q1 ha1 ha2 hw1 hw2 hw3 hw4 hww hat hm;have hWA:=hW7.same s7A
  have tabA:=tab7.same s7A;have hlA:=s7A _ _ hl7
  have hLA2:=s7A _ _ hL7;have hTA:=s7A _ _ hT7
  obtain⟨j,hj,hjL⟩:∃ j:Bool,(j=true↔∃ U,Zf n ps U)/\(j=true↔0<L.length):=by
   have e:(0<L.length)↔∃ U,Zf n ps U:=by
    constructor
    .intro h;exact⟨L[0],(hmem _).mp (Y0R h)⟩
    .rintro⟨U,hU⟩;exact Y2d ((hmem U).mpr hU)
   exact⟨decide (0<L.length),by rw[YH];exact e,by rw[YH]⟩
  have hex:∃ c:Nat,TC n ps c/\(0<=z->(c:Int)<=z):=⟨_,tc,hz⟩;refine Zz113 (λσ HB=>∃(wA:Addr) (wl:Ac),σ=[some (.ref a),some (.int n),some (.ref l),some (.ref x),some (.ref TA),some (.ref LA),some (.int c),some (.ref oA),some (.int z),some (.ref wA),v10]/\Same HA HB/\HB wA=some (.lst (IL wl))/\wl.length≠ps.length) ?_ ?_;rotate_left
  .intro Kn hK;refine⟨_,rfl,l,xs,rfl,.inl (SqL.of hlA),rfl,_,rfl,?_⟩;rw[Zw];refine itd2 (λe=>?_) (λe=>?_)
   .refine⟨_,rfl,_,_,rfl,rfl,⟨by decide,by decide⟩,_,_,rfl,rfl,(by show(0:Int)<10 ^ Int.toNat 59;decide),one,λp hp=>?_⟩;refine hK _ _ ⟨p,[c % 10 ^ Int.toNat 59],rfl,same_at hp,Zz1,?_⟩;show 1≠_
    lia
   .exact hK _ _ ⟨wA,wl,rfl,Same.refl _,hwA,hwl (by lia)⟩
  clear hwA hwl wA wl;rintro σ HB ⟨wA,wl,rfl,sB,hwA,hwl⟩;have hWB:=hWA.same sB
  have tabB:=tabA.same sB;have hOB:=sB _ _ hO10
  have hLB:=sB _ _ hLA2;have hTB:=sB _ _ hTA
  have s7B:=s7A.trans sB;refine⟨_,rfl,by decide,by decide,ZB2 (lo:=0) (n:=(8:Int).toNat) (λi zs HD=>SameX Pt HB HD/\TabR HD Pt/\zs=TL ((List.range i).map λ(d:Nat)=>dueS (dueK (d:Int) false j))) ⟨SameX.same (Same.refl _),tabB,rfl⟩ (by show 8<sizeLine;decide) (λi zs HD _ h=>by rw[h.2.2,ZW3,Yc,YK];exact Yy6 _) ?_ ?_⟩
  .rintro i zs HD hi ⟨sxD,tabD,rfl⟩ SS hSS;have hi8:i<8:=hi
   refine nm ?_;refine⟨_,rfl,_,rfl,_,rfl,_,rfl,_,rfl,x,wA,oA,n,ps,wl,od,z,0+(i:Int),false,j,rfl,hWB.samex tabB sxD,hG,SqL.of (sxD _ _ (tabB.ne hwA (by simp)) hwA),SqL.of (sxD _ _ (tabB.ne hOB (by simp)) hOB),hno,z0,z1,hex,tabD,by lia,by lia,⟨λh=>(by cases h),λh=>absurd h hwl⟩,hj,λHE sxE tabE=>hSS _ _ ⟨sxD.trans sxE,tabE,?_⟩⟩;rw[Y0L,YC,<- Zm10,Y1N];rfl
  rintro zs HD ⟨sxD,tabD,rfl⟩ r1 hr1;have u1:=same_at (o:=.lst (TL ((List.range (8:Int).toNat).map λ(d:Nat)=>dueS (dueK (d:Int) false j)))) hr1
  have y1:=Zz1 (H:=HD) (a:=r1) (o:=.lst (TL ((List.range (8:Int).toNat).map λ(d:Nat)=>dueS (dueK (d:Int) false j))));generalize upd HD r1 (.lst (TL ((List.range (8:Int).toNat).map λ(d:Nat)=>dueS (dueK (d:Int) false j))))=HE at *;refine⟨one,λq1 hq1=>⟨q1,8,_,rfl,rfl,Zz1,by decide,by decide,(by show 1 * 8<=sizeLine;decide),λq2 hq2=>?_⟩⟩;have u2:=same_at (o:=.lst [.str "row"]) hq1
  have u3:=same_at (o:=.lst (List.replicate (8:Int).toNat [.str "row"]).flatten) hq2;have uE:=u1.trans (u2.trans u3)
  refine⟨1,_,r1,q2,rfl,rfl,by decide,Zs6 (SqL.of ((u2.trans u3) _ _ y1)) (SqL.of Zz1) (ZO7 _),_,rfl,?_⟩;refine iteF ?_;show(_:Prop)
  refine ZP5 ?_;have sxF:=sxD.trans (SameX.same uE)
  have tabF:=tabD.same uE;change tSeq _ _ _ _ (upd (upd HE q1 (.lst [.str "row"])) q2 (.lst (List.replicate (8:Int).toNat [.str "row"]).flatten));generalize upd (upd HE q1 (.lst [.str "row"])) q2 (.lst (List.replicate (8:Int).toNat [.str "row"]).flatten)=HF at *;clear u1 u2 u3 uE y1 hq1 hq2 hr1 sxD tabD hwA hwl;have hTF:=sxF _ _ (tabB.ne hTB (by simp)) hTB
  refine⟨two,λd1 hd1=>?_⟩;have u1:=same_at (o:=.lst [.str "parted",.str "told"]) hd1
  refine⟨_,rfl,TA,ys,rfl,.inl (SqL.of (u1 _ _ hTF)),_,_,rfl,rfl,.inr ⟨_,rfl,d1,_,_,.str (dueS (if j=true then 5 else 2)),rfl,rfl,SqL.of Zz1,?_,(by show 8<=sizeLine;decide),λdA hdA=>?_⟩⟩
  .cases j with
   | true =>
    have:0<L.length:=hjL.mp rfl
    rw[Yt (by lia:(0:Int)<(ys.length:Int))];rfl
   | false =>
    have:¬ 0<L.length:=λh=>by cases hjL.mpr h
    rw[YT (by lia:¬ (0:Int)<(ys.length:Int))];rfl
  have ed:[V.str "set",.str (dueS (if j=true then 5 else 2)),.str "tree",.str "tree",.str "tree",.str "number",.str "told",.str "told"]=TL ((List.range (8:Int).toNat).map λ(d:Nat)=>dueS (dueK (d:Int) true j)):=by cases j <;> rfl
  refine nm ?_;dsimp only [List.set];change tIfS _ _ _ _ _ (upd (upd HF d1 (.lst [.str "parted",.str "told"])) dA (.lst [V.str "set",.str (dueS (if j=true then 5 else 2)),.str "tree",.str "tree",.str "tree",.str "number",.str "told",.str "told"]));rw[ed];have u2:=same_at (o:=.lst (TL ((List.range (8:Int).toNat).map λ(d:Nat)=>dueS (dueK (d:Int) true j)))) hdA
  have y2:=Zz1 (H:=upd HF d1 (.lst [.str "parted",.str "told"])) (a:=dA) (o:=.lst (TL ((List.range (8:Int).toNat).map λ(d:Nat)=>dueS (dueK (d:Int) true j))));have sxG:=sxF.trans (SameX.same (u1.trans u2))
  have tabG:=tabF.same (u1.trans u2);generalize upd (upd HF d1 (.lst [.str "parted",.str "told"])) dA (.lst (TL ((List.range (8:Int).toNat).map λ(d:Nat)=>dueS (dueK (d:Int) true j))))=HG at *;clear u1 u2 hd1 hdA sxF tabF;refine⟨_,rfl,by decide,by decide,ZB2 (lo:=0) (n:=(8:Int).toNat) (λi zs HD=>SameX Pt HG HD/\TabR HD Pt/\zs=TL ((List.range i).map λ(d:Nat)=>dueS (dueK (d:Int) true j))) ⟨SameX.same (Same.refl _),tabG,rfl⟩ (by show 8<sizeLine;decide) (λi zs HD _ h=>by rw[h.2.2,ZW3,Yc,YK];exact Yy6 _) ?_ ?_⟩
  .rintro i zs HD hi ⟨sxD,tabD,rfl⟩ SS hSS;have hi8:i<8:=hi
   have sxBD:=sxG.trans sxD;refine nm ?_;refine⟨_,rfl,_,rfl,_,rfl,LA,_,rfl,.inl (SqL.of (sxBD _ _ (tabB.ne hLB (by simp)) hLB)),λcp hcp=>?_⟩;have u1:=same_at (o:=.lst (IL ls)) hcp
   have sxC:=sxBD.trans (SameX.same u1);refine⟨_,rfl,_,rfl,x,cp,oA,n,ps,ls,od,z,0+(i:Int),true,j,rfl,hWB.samex tabB sxC,hG,SqL.of Zz1,SqL.of (sxC _ _ (tabB.ne hOB (by simp)) hOB),hno,z0,z1,hex,tabD.same u1,by lia,by lia,⟨λ_=>hlp,λ_=>rfl⟩,hj,λHE sxE tabE=>hSS _ _ ⟨sxD.trans ((SameX.same u1).trans sxE),tabE,?_⟩⟩;rw[Y0L,YC,<- Zm10,Y1N];rfl
  rintro zs HD ⟨sxD,tabD,rfl⟩ r1 hr1;have u1:=same_at (o:=.lst (TL ((List.range (8:Int).toNat).map λ(d:Nat)=>dueS (dueK (d:Int) true j)))) hr1
  have y3:=sxD _ _ (tabG.ne y2 (by simp)) y2;refine⟨_,rfl,1,_,r1,dA,rfl,rfl,by decide,Zs6 (SqL.of Zz1) (SqL.of (u1 _ _ y3)) (ZO7 _),_,rfl,?_⟩;refine iteF ?_;show(_:Prop)
  refine ZP5 ?_;exact⟨_,_,_,_,_,rfl,sx7.trans ((SameX.same s7B).trans (sxG.trans (sxD.trans (SameX.same u1)))),tabD.same u1⟩
end
end My
namespace My
open PySem L2
theorem law_binds {K:Ad} {f:Addr} {fd:FuncData} (F:Fun K "law" "law" sZQ f fd) (s:Shared) (u:Value):BindsTo s fd ⟨[u],[]⟩ [("script",u)]:=by obtain⟨oc,od,kV,doc,pm,an,cdv,ct,osl,rfl,lk,hcd⟩:=F.ex;exact .of_eq rfl
end My
open PySem PySem.W PyProof.Rows
set_option maxRecDepth 100000 in
set_option maxHeartbeats 0 in
theorem PySem.Challenge.cw_spanrow_k68_lengths_refused_holds : PySem.Challenge.rw_spanrow_k68_lengths_refused.Holds := by
 w_on;o_law;k_head;(case hw=>w_witness2)
 k_fill
 refine L2.walk_ofT (l:=PySem.Challenge.rw_spanrow_k68_lengths_refused) (n:=63) (k:=13) (x:="script") (CX:=L2.CX0) (sp:=λK=>My.spZQ K 394) (c:=398) (Pt:=394) rfl (by decide) rfl ⟨rfl,by decide,by decide⟩ (λw h Y=>⟨PySem.W.km_in_of Y,PySem.W.km_tabs_of Y 394 (Yy1.mpr rfl)⟩) ?C ?P ?F (λ_ H a ns hl hO hS=>⟨a,ns,rfl,hS,hl,⟨#[],hO.1,trivial,.inl rfl⟩,λ_=>rfl⟩) (λ_ _ _ _ z=>z)
 case C=>intro w;kernel_rfl
 case P=>intro w;kernel_rfl
 case F =>
  intro w mg fa h KX G hmg;obtain⟨aZ0,dZ0,mZ0,fZ0⟩:My.FX (L2.KOf KX) mg "refuse_not_square" "refuse_not_square" My.sZ0:=by dsimp only [L2.KOf];refine' My.fx_mk KX G ?a ?l ?c ?k;case a | l | c | k=>k_is
  obtain⟨aZ1,dZ1,mZ1,fZ1⟩:My.FX (L2.KOf KX) mg "row_taken_off" "row_taken_off" My.sZ1:=by dsimp only [L2.KOf];refine' My.fx_mk KX G ?a ?l ?c ?k;case a | l | c | k=>k_is
  obtain⟨aZ2,dZ2,mZ2,fZ2⟩:My.FX (L2.KOf KX) mg "first_with_some" "first_with_some" My.sZ2:=by dsimp only [L2.KOf];refine' My.fx_mk KX G ?a ?l ?c ?k;case a | l | c | k=>k_is
  obtain⟨aZ3,dZ3,mZ3,fZ3⟩:My.FX (L2.KOf KX) mg "determinant" "determinant" My.sZ3:=by dsimp only [L2.KOf];refine' My.fx_mk KX G ?a ?l ?c ?k;case a | l | c | k=>k_is
  obtain⟨aZ4,dZ4,mZ4,fZ4⟩:My.FX (L2.KOf KX) mg "row_without" "row_without" My.sZ4:=by dsimp only [L2.KOf];refine' My.fx_mk KX G ?a ?l ?c ?k;case a | l | c | k=>k_is
  obtain⟨aZ5,dZ5,mZ5,fZ5⟩:My.FX (L2.KOf KX) mg "table_without" "table_without" My.sZ5:=by dsimp only [L2.KOf];refine' My.fx_mk KX G ?a ?l ?c ?k;case a | l | c | k=>k_is
  obtain⟨aZ6,dZ6,mZ6,fZ6⟩:My.FX (L2.KOf KX) mg "is_tie" "is_tie" My.sZ6:=by dsimp only [L2.KOf];refine' My.fx_mk KX G ?a ?l ?c ?k;case a | l | c | k=>k_is
  obtain⟨aZ7,dZ7,mZ7,fZ7⟩:My.FX (L2.KOf KX) mg "refuse_bad_web" "refuse_bad_web" My.sZ7:=by dsimp only [L2.KOf];refine' My.fx_mk KX G ?a ?l ?c ?k;case a | l | c | k=>k_is
  obtain⟨aZ9,dZ9,mZ9,fZ9⟩:My.FX (L2.KOf KX) mg "refuse_bad_row" "refuse_bad_row" My.sZ9:=by dsimp only [L2.KOf];refine' My.fx_mk KX G ?a ?l ?c ?k;case a | l | c | k=>k_is
  obtain⟨aZa,dZa,mZa,fZa⟩:My.FX (L2.KOf KX) mg "all_ties" "all_ties" My.sZa:=by dsimp only [L2.KOf];refine' My.fx_mk KX G ?a ?l ?c ?k;case a | l | c | k=>k_is
  obtain⟨aZb,dZb,mZb,fZb⟩:My.FX (L2.KOf KX) mg "ties_beside" "ties_beside" My.sZb:=by dsimp only [L2.KOf];refine' My.fx_mk KX G ?a ?l ?c ?k;case a | l | c | k=>k_is
  obtain⟨aZc,dZc,mZc,fZc⟩:My.FX (L2.KOf KX) mg "ties_without" "ties_without" My.sZc:=by dsimp only [L2.KOf];refine' My.fx_mk KX G ?a ?l ?c ?k;case a | l | c | k=>k_is
  obtain⟨aZd,dZd,mZd,fZd⟩:My.FX (L2.KOf KX) mg "is_set" "is_set" My.sZd:=by dsimp only [L2.KOf];refine' My.fx_mk KX G ?a ?l ?c ?k;case a | l | c | k=>k_is
  obtain⟨aZe,dZe,mZe,fZe⟩:My.FX (L2.KOf KX) mg "made_set" "made_set" My.sZe:=by dsimp only [L2.KOf];refine' My.fx_mk KX G ?a ?l ?c ?k;case a | l | c | k=>k_is
  obtain⟨aZf,dZf,mZf,fZf⟩:My.FX (L2.KOf KX) mg "merged_marks" "merged_marks" My.sZf:=by dsimp only [L2.KOf];refine' My.fx_mk KX G ?a ?l ?c ?k;case a | l | c | k=>k_is
  obtain⟨aZg,dZg,mZg,fZg⟩:My.FX (L2.KOf KX) mg "piece_marks" "piece_marks" My.sZg:=by dsimp only [L2.KOf];refine' My.fx_mk KX G ?a ?l ?c ?k;case a | l | c | k=>k_is
  obtain⟨aZh,dZh,mZh,fZh⟩:My.FX (L2.KOf KX) mg "pieces_of" "pieces_of" My.sZh:=by dsimp only [L2.KOf];refine' My.fx_mk KX G ?a ?l ?c ?k;case a | l | c | k=>k_is
  obtain⟨aZi,dZi,mZi,fZi⟩:My.FX (L2.KOf KX) mg "is_joined" "is_joined" My.sZi:=by dsimp only [L2.KOf];refine' My.fx_mk KX G ?a ?l ?c ?k;case a | l | c | k=>k_is
  obtain⟨aZj,dZj,mZj,fZj⟩:My.FX (L2.KOf KX) mg "refuse_parted" "refuse_parted" My.sZj:=by dsimp only [L2.KOf];refine' My.fx_mk KX G ?a ?l ?c ?k;case a | l | c | k=>k_is
  obtain⟨aZk,dZk,mZk,fZk⟩:My.FX (L2.KOf KX) mg "weighted_table" "weighted_table" My.sZk:=by dsimp only [L2.KOf];refine' My.fx_mk KX G ?a ?l ?c ?k;case a | l | c | k=>k_is
  obtain⟨aZl,dZl,mZl,fZl⟩:My.FX (L2.KOf KX) mg "pull_table" "pull_table" My.sZl:=by dsimp only [L2.KOf];refine' My.fx_mk KX G ?a ?l ?c ?k;case a | l | c | k=>k_is
  obtain⟨aZm,dZm,mZm,fZm⟩:My.FX (L2.KOf KX) mg "tree_count" "tree_count" My.sZm:=by dsimp only [L2.KOf];refine' My.fx_mk KX G ?a ?l ?c ?k;case a | l | c | k=>k_is
  obtain⟨aZn,dZn,mZn,fZn⟩:My.FX (L2.KOf KX) mg "part_count" "part_count" My.sZn:=by dsimp only [L2.KOf];refine' My.fx_mk KX G ?a ?l ?c ?k;case a | l | c | k=>k_is
  obtain⟨aZo,dZo,mZo,fZo⟩:My.FX (L2.KOf KX) mg "is_tree" "is_tree" My.sZo:=by dsimp only [L2.KOf];refine' My.fx_mk KX G ?a ?l ?c ?k;case a | l | c | k=>k_is
  obtain⟨aZp,dZp,mZp,fZp⟩:My.FX (L2.KOf KX) mg "refuse_no_tree" "refuse_no_tree" My.sZp:=by dsimp only [L2.KOf];refine' My.fx_mk KX G ?a ?l ?c ?k;case a | l | c | k=>k_is
  obtain⟨aZq,dZq,mZq,fZq⟩:My.FX (L2.KOf KX) mg "grown_tree" "grown_tree" My.sZq:=by dsimp only [L2.KOf];refine' My.fx_mk KX G ?a ?l ?c ?k;case a | l | c | k=>k_is
  obtain⟨aZr,dZr,mZr,fZr⟩:My.FX (L2.KOf KX) mg "least_tree" "least_tree" My.sZr:=by dsimp only [L2.KOf];refine' My.fx_mk KX G ?a ?l ?c ?k;case a | l | c | k=>k_is
  obtain⟨aZs,dZs,mZs,fZs⟩:My.FX (L2.KOf KX) mg "tree_cut" "tree_cut" My.sZs:=by dsimp only [L2.KOf];refine' My.fx_mk KX G ?a ?l ?c ?k;case a | l | c | k=>k_is
  obtain⟨aZt,dZt,mZt,fZt⟩:My.FX (L2.KOf KX) mg "exchanges_of" "exchanges_of" My.sZt:=by dsimp only [L2.KOf];refine' My.fx_mk KX G ?a ?l ?c ?k;case a | l | c | k=>k_is
  obtain⟨aZu,dZu,mZu,fZu⟩:My.FX (L2.KOf KX) mg "tree_at" "tree_at" My.sZu:=by dsimp only [L2.KOf];refine' My.fx_mk KX G ?a ?l ?c ?k;case a | l | c | k=>k_is
  obtain⟨aZv,dZv,mZv,fZv⟩:My.FX (L2.KOf KX) mg "lesser_ties" "lesser_ties" My.sZv:=by dsimp only [L2.KOf];refine' My.fx_mk KX G ?a ?l ?c ?k;case a | l | c | k=>k_is
  obtain⟨aZw,dZw,mZw,fZw⟩:My.FX (L2.KOf KX) mg "number_of" "number_of" My.sZw:=by dsimp only [L2.KOf];refine' My.fx_mk KX G ?a ?l ?c ?k;case a | l | c | k=>k_is
  obtain⟨aZx,dZx,mZx,fZx⟩:My.FX (L2.KOf KX) mg "length_of" "length_of" My.sZx:=by dsimp only [L2.KOf];refine' My.fx_mk KX G ?a ?l ?c ?k;case a | l | c | k=>k_is
  obtain⟨aZy,dZy,mZy,fZy⟩:My.FX (L2.KOf KX) mg "cheapest_web" "cheapest_web" My.sZy:=by dsimp only [L2.KOf];refine' My.fx_mk KX G ?a ?l ?c ?k;case a | l | c | k=>k_is
  obtain⟨aZz,dZz,mZz,fZz⟩:My.FX (L2.KOf KX) mg "cheapest_tree" "cheapest_tree" My.sZz:=by dsimp only [L2.KOf];refine' My.fx_mk KX G ?a ?l ?c ?k;case a | l | c | k=>k_is
  obtain⟨aZA,dZA,mZA,fZA⟩:My.FX (L2.KOf KX) mg "gains_of" "gains_of" My.sZA:=by dsimp only [L2.KOf];refine' My.fx_mk KX G ?a ?l ?c ?k;case a | l | c | k=>k_is
  obtain⟨aZB,dZB,mZB,fZB⟩:My.FX (L2.KOf KX) mg "is_cheapest" "is_cheapest" My.sZB:=by dsimp only [L2.KOf];refine' My.fx_mk KX G ?a ?l ?c ?k;case a | l | c | k=>k_is
  obtain⟨aZC,dZC,mZC,fZC⟩:My.FX (L2.KOf KX) mg "cheapest_count" "cheapest_count" My.sZC:=by dsimp only [L2.KOf];refine' My.fx_mk KX G ?a ?l ?c ?k;case a | l | c | k=>k_is
  obtain⟨aZD,dZD,mZD,fZD⟩:My.FX (L2.KOf KX) mg "cheapest_at" "cheapest_at" My.sZD:=by dsimp only [L2.KOf];refine' My.fx_mk KX G ?a ?l ?c ?k;case a | l | c | k=>k_is
  obtain⟨aZE,dZE,mZE,fZE⟩:My.FX (L2.KOf KX) mg "cheapest_number" "cheapest_number" My.sZE:=by dsimp only [L2.KOf];refine' My.fx_mk KX G ?a ?l ?c ?k;case a | l | c | k=>k_is
  obtain⟨aZF,dZF,mZF,fZF⟩:My.FX (L2.KOf KX) mg "first_of" "first_of" My.sZF:=by dsimp only [L2.KOf];refine' My.fx_mk KX G ?a ?l ?c ?k;case a | l | c | k=>k_is
  obtain⟨aZG,dZG,mZG,fZG⟩:My.FX (L2.KOf KX) mg "firsts_behind" "firsts_behind" My.sZG:=by dsimp only [L2.KOf];refine' My.fx_mk KX G ?a ?l ?c ?k;case a | l | c | k=>k_is
  obtain⟨aZH,dZH,c_lam,mZH,fZH,e_lam,z_lam⟩:My.FXL (L2.KOf KX) mg "ranked" "ranked" My.sZH 394:=by dsimp only [L2.KOf];refine' My.fxl_mk KX G ?a ?l ?c ?k ?z;(case a | l | c | k=>k_is);(case z=>kernel_rfl)
  obtain⟨aZI,dZI,mZI,fZI⟩:My.FX (L2.KOf KX) mg "_law_at" "_law_at" My.sZI:=by dsimp only [L2.KOf];refine' My.fx_mk KX G ?a ?l ?c ?k;case a | l | c | k=>k_is
  obtain⟨aZJ,dZJ,mZJ,fZJ⟩:My.FX (L2.KOf KX) mg "_law_stir" "_law_stir" My.sZJ:=by dsimp only [L2.KOf];refine' My.fx_mk KX G ?a ?l ?c ?k;case a | l | c | k=>k_is
  obtain⟨aZK,dZK,mZK,fZK⟩:My.FX (L2.KOf KX) mg "_law_numbers" "_law_numbers" My.sZK:=by dsimp only [L2.KOf];refine' My.fx_mk KX G ?a ?l ?c ?k;case a | l | c | k=>k_is
  obtain⟨aZL,dZL,mZL,fZL⟩:My.FX (L2.KOf KX) mg "_law_digits" "_law_digits" My.sZL:=by dsimp only [L2.KOf];refine' My.fx_mk KX G ?a ?l ?c ?k;case a | l | c | k=>k_is
  obtain⟨aZM,dZM,mZM,fZM⟩:My.FX (L2.KOf KX) mg "_law_web" "_law_web" My.sZM:=by dsimp only [L2.KOf];refine' My.fx_mk KX G ?a ?l ?c ?k;case a | l | c | k=>k_is
  obtain⟨aZN,dZN,mZN,fZN⟩:My.FX (L2.KOf KX) mg "_law_trees" "_law_trees" My.sZN:=by dsimp only [L2.KOf];refine' My.fx_mk KX G ?a ?l ?c ?k;case a | l | c | k=>k_is
  obtain⟨aZO,dZO,mZO,fZO⟩:My.FX (L2.KOf KX) mg "_law_deed" "_law_deed" My.sZO:=by dsimp only [L2.KOf];refine' My.fx_mk KX G ?a ?l ?c ?k;case a | l | c | k=>k_is
  obtain⟨aZP,dZP,mZP,fZP⟩:My.FX (L2.KOf KX) mg "_law_told" "_law_told" My.sZP:=by dsimp only [L2.KOf];refine' My.fx_mk KX G ?a ?l ?c ?k;case a | l | c | k=>k_is
  obtain⟨aZQ,dZQ,mZQ,fZQ⟩:My.FX (L2.KOf KX) mg "law" "law" My.sZQ:=by dsimp only [L2.KOf];refine' My.fx_mk KX G ?a ?l ?c ?k;case a | l | c | k=>k_is
  have h_Web:My.CXF (L2.KOf KX) mg "Web" "Web.__init__" My.sZ8 ["places","ties"]:=by
   dsimp only [L2.KOf];refine' My.cx_mk KX G ?aC ?a ?i ?l ?c ?k ?pg ?hd ?po ?sa ?mk ?kc ?na
   (case aC=>k_is);(case a=>k_is);(case i=>k_is);(case l=>k_is);(case c=>k_is);(case k=>k_is)
   (case pg=>k_is);(case hd=>k_is);(case po=>k_is);(case sa=>k_is);(case mk=>k_is);(case kc=>k_is)
   (case na=>(intro f hf;simp only [Ye,Y1K,or_false]at hf;rcases hf with rfl | rfl <;> k_is))
  have hX:∃ A_WebError A_BadSet A_Parted A_NoTree A_NoSuch A_BadRow:Addr,mg "WebError"=some (.ref A_WebError)/\mg "BadSet"=some (.ref A_BadSet)/\mg "Parted"=some (.ref A_Parted)/\mg "NoTree"=some (.ref A_NoTree)/\mg "NoSuch"=some (.ref A_NoSuch)/\mg "BadRow"=some (.ref A_BadRow)/\L2.XCls (L2.KOf KX) (A_BadRow)/\L2.XCls (L2.KOf KX) (A_BadSet)/\L2.XCls (L2.KOf KX) (A_Parted)/\L2.XCls (L2.KOf KX) (A_NoTree)/\L2.XCls (L2.KOf KX) (A_NoSuch)/\PySem.W.kitOne (L2.KOf KX) (.ref (A_BadRow)) (.ref (A_BadSet))=some false/\PySem.W.kitOne (L2.KOf KX) (.ref (A_BadRow)) (.ref (A_Parted))=some false/\PySem.W.kitOne (L2.KOf KX) (.ref (A_BadRow)) (.ref (A_NoTree))=some false/\PySem.W.kitOne (L2.KOf KX) (.ref (A_BadRow)) (.ref (A_NoSuch))=some false/\PySem.W.kitOne (L2.KOf KX) (.ref (A_BadRow)) (.type "ValueError")=some true/\PySem.W.exmOne (L2.KOf KX) (.ref (A_BadRow)) (.ref (A_WebError))=some true/\PySem.W.kitOne (L2.KOf KX) (.ref (A_BadSet)) (.ref (A_BadRow))=some false/\PySem.W.kitOne (L2.KOf KX) (.ref (A_BadSet)) (.ref (A_Parted))=some false/\PySem.W.kitOne (L2.KOf KX) (.ref (A_BadSet)) (.ref (A_NoTree))=some false/\PySem.W.kitOne (L2.KOf KX) (.ref (A_BadSet)) (.ref (A_NoSuch))=some false/\PySem.W.kitOne (L2.KOf KX) (.ref (A_BadSet)) (.type "ValueError")=some true/\PySem.W.exmOne (L2.KOf KX) (.ref (A_BadSet)) (.ref (A_WebError))=some true/\PySem.W.kitOne (L2.KOf KX) (.ref (A_Parted)) (.ref (A_BadRow))=some false/\PySem.W.kitOne (L2.KOf KX) (.ref (A_Parted)) (.ref (A_BadSet))=some false/\PySem.W.kitOne (L2.KOf KX) (.ref (A_Parted)) (.ref (A_NoTree))=some false/\PySem.W.kitOne (L2.KOf KX) (.ref (A_Parted)) (.ref (A_NoSuch))=some false/\PySem.W.kitOne (L2.KOf KX) (.ref (A_Parted)) (.type "ValueError")=some true/\PySem.W.exmOne (L2.KOf KX) (.ref (A_Parted)) (.ref (A_WebError))=some true/\PySem.W.kitOne (L2.KOf KX) (.ref (A_NoTree)) (.ref (A_BadRow))=some false/\PySem.W.kitOne (L2.KOf KX) (.ref (A_NoTree)) (.ref (A_BadSet))=some false/\PySem.W.kitOne (L2.KOf KX) (.ref (A_NoTree)) (.ref (A_Parted))=some false/\PySem.W.kitOne (L2.KOf KX) (.ref (A_NoTree)) (.ref (A_NoSuch))=some false/\PySem.W.kitOne (L2.KOf KX) (.ref (A_NoTree)) (.type "ValueError")=some true/\PySem.W.exmOne (L2.KOf KX) (.ref (A_NoTree)) (.ref (A_WebError))=some true/\PySem.W.kitOne (L2.KOf KX) (.ref (A_NoSuch)) (.ref (A_BadRow))=some false/\PySem.W.kitOne (L2.KOf KX) (.ref (A_NoSuch)) (.ref (A_BadSet))=some false/\PySem.W.kitOne (L2.KOf KX) (.ref (A_NoSuch)) (.ref (A_Parted))=some false/\PySem.W.kitOne (L2.KOf KX) (.ref (A_NoSuch)) (.ref (A_NoTree))=some false/\PySem.W.kitOne (L2.KOf KX) (.ref (A_NoSuch)) (.type "ValueError")=some true/\PySem.W.exmOne (L2.KOf KX) (.ref (A_NoSuch)) (.ref (A_WebError))=some true:=by
   dsimp only [L2.KOf];refine' My.xI (My.xI (My.xI (My.xI (My.xI (My.xI (⟨Y0S KX G ?m_WebError,Y0S KX G ?m_BadSet,Y0S KX G ?m_Parted,Y0S KX G ?m_NoTree,Y0S KX G ?m_NoSuch,Y0S KX G ?m_BadRow,⟨?x_BadRow_ex,?x_BadRow_ga,?x_BadRow_gh,?x_BadRow_cl,?x_BadRow_ob,?x_BadRow_bx⟩,⟨?x_BadSet_ex,?x_BadSet_ga,?x_BadSet_gh,?x_BadSet_cl,?x_BadSet_ob,?x_BadSet_bx⟩,⟨?x_Parted_ex,?x_Parted_ga,?x_Parted_gh,?x_Parted_cl,?x_Parted_ob,?x_Parted_bx⟩,⟨?x_NoTree_ex,?x_NoTree_ga,?x_NoTree_gh,?x_NoTree_cl,?x_NoTree_ob,?x_NoTree_bx⟩,⟨?x_NoSuch_ex,?x_NoSuch_ga,?x_NoSuch_gh,?x_NoSuch_cl,?x_NoSuch_ob,?x_NoSuch_bx⟩,?ki_BadRow_BadSet,?ki_BadRow_Parted,?ki_BadRow_NoTree,?ki_BadRow_NoSuch,?ki_BadRow_ValueError,?em_BadRow,?ki_BadSet_BadRow,?ki_BadSet_Parted,?ki_BadSet_NoTree,?ki_BadSet_NoSuch,?ki_BadSet_ValueError,?em_BadSet,?ki_Parted_BadRow,?ki_Parted_BadSet,?ki_Parted_NoTree,?ki_Parted_NoSuch,?ki_Parted_ValueError,?em_Parted,?ki_NoTree_BadRow,?ki_NoTree_BadSet,?ki_NoTree_Parted,?ki_NoTree_NoSuch,?ki_NoTree_ValueError,?em_NoTree,?ki_NoSuch_BadRow,?ki_NoSuch_BadSet,?ki_NoSuch_Parted,?ki_NoSuch_NoTree,?ki_NoSuch_ValueError,?em_NoSuch⟩))))))
   (case m_WebError=>k_is)
   (case m_BadSet=>k_is)
   (case m_Parted=>k_is)
   (case m_NoTree=>k_is)
   (case m_NoSuch=>k_is)
   (case m_BadRow=>k_is)
   (case x_BadRow_ex=>k_exc);(case x_BadRow_ga=>k_is);(case x_BadRow_gh=>k_is);(case x_BadRow_cl=>k_is);(case x_BadRow_ob=>k_is);(case x_BadRow_bx=>k_is)
   (case x_BadSet_ex=>k_exc);(case x_BadSet_ga=>k_is);(case x_BadSet_gh=>k_is);(case x_BadSet_cl=>k_is);(case x_BadSet_ob=>k_is);(case x_BadSet_bx=>k_is)
   (case x_Parted_ex=>k_exc);(case x_Parted_ga=>k_is);(case x_Parted_gh=>k_is);(case x_Parted_cl=>k_is);(case x_Parted_ob=>k_is);(case x_Parted_bx=>k_is)
   (case x_NoTree_ex=>k_exc);(case x_NoTree_ga=>k_is);(case x_NoTree_gh=>k_is);(case x_NoTree_cl=>k_is);(case x_NoTree_ob=>k_is);(case x_NoTree_bx=>k_is)
   (case x_NoSuch_ex=>k_exc);(case x_NoSuch_ga=>k_is);(case x_NoSuch_gh=>k_is);(case x_NoSuch_cl=>k_is);(case x_NoSuch_ob=>k_is);(case x_NoSuch_bx=>k_is)
   (case ki_BadRow_BadSet=>kit_is)
   (case ki_BadRow_Parted=>kit_is)
   (case ki_BadRow_NoTree=>kit_is)
   (case ki_BadRow_NoSuch=>kit_is)
   (case ki_BadRow_ValueError=>kit_is)
   (case em_BadRow=>kts_exm)
   (case ki_BadSet_BadRow=>kit_is)
   (case ki_BadSet_Parted=>kit_is)
   (case ki_BadSet_NoTree=>kit_is)
   (case ki_BadSet_NoSuch=>kit_is)
   (case ki_BadSet_ValueError=>kit_is)
   (case em_BadSet=>kts_exm)
   (case ki_Parted_BadRow=>kit_is)
   (case ki_Parted_BadSet=>kit_is)
   (case ki_Parted_NoTree=>kit_is)
   (case ki_Parted_NoSuch=>kit_is)
   (case ki_Parted_ValueError=>kit_is)
   (case em_Parted=>kts_exm)
   (case ki_NoTree_BadRow=>kit_is)
   (case ki_NoTree_BadSet=>kit_is)
   (case ki_NoTree_Parted=>kit_is)
   (case ki_NoTree_NoSuch=>kit_is)
   (case ki_NoTree_ValueError=>kit_is)
   (case em_NoTree=>kts_exm)
   (case ki_NoSuch_BadRow=>kit_is)
   (case ki_NoSuch_BadSet=>kit_is)
   (case ki_NoSuch_Parted=>kit_is)
   (case ki_NoSuch_NoTree=>kit_is)
   (case ki_NoSuch_ValueError=>kit_is)
   (case em_NoSuch=>kts_exm)
  have h_MOST_PLACES:∃ tk,mg "MOST_PLACES"=some (.int 14 tk):=by
   refine' My.const_mk KX G ?a ?b
   (case a=>k_is);(case b=>exact⟨_,rfl⟩)
  have h_MOST_TIES:∃ tk,mg "MOST_TIES"=some (.int 30 tk):=by
   refine' My.const_mk KX G ?a ?b
   (case a=>k_is);(case b=>exact⟨_,rfl⟩)
  have h_ValueError:mg "ValueError"=none:=by refine' YW KX G ?a;case a=>k_is
  have h_enumerate:mg "enumerate"=none:=by refine' YW KX G ?a;case a=>k_is
  have h_int:mg "int"=none:=by refine' YW KX G ?a;case a=>k_is
  have h_isinstance:mg "isinstance"=none:=by refine' YW KX G ?a;case a=>k_is
  have h_len:mg "len"=none:=by refine' YW KX G ?a;case a=>k_is
  have h_list:mg "list"=none:=by refine' YW KX G ?a;case a=>k_is
  have h_max:mg "max"=none:=by refine' YW KX G ?a;case a=>k_is
  have h_min:mg "min"=none:=by refine' YW KX G ?a;case a=>k_is
  have h_range:mg "range"=none:=by refine' YW KX G ?a;case a=>k_is
  have h_set:mg "set"=none:=by refine' YW KX G ?a;case a=>k_is
  have h_sorted:mg "sorted"=none:=by refine' YW KX G ?a;case a=>k_is
  have h_sum:mg "sum"=none:=by refine' YW KX G ?a;case a=>k_is
  have h_tuple:mg "tuple"=none:=by refine' YW KX G ?a;case a=>k_is
  have h_zip:mg "zip"=none:=by refine' YW KX G ?a;case a=>k_is
  obtain⟨A_Web,aZ8,dZ8,c_Web,fZ8,cl_Web,k_Web,na_Web⟩:=h_Web;obtain⟨A_WebError,A_BadSet,A_Parted,A_NoTree,A_NoSuch,A_BadRow,c_WebError,c_BadSet,c_Parted,c_NoTree,c_NoSuch,c_BadRow,x_BadRow,x_BadSet,x_Parted,x_NoTree,x_NoSuch,ki_BadRow_BadSet,ki_BadRow_Parted,ki_BadRow_NoTree,ki_BadRow_NoSuch,ki_BadRow_ValueError,em_BadRow,ki_BadSet_BadRow,ki_BadSet_Parted,ki_BadSet_NoTree,ki_BadSet_NoSuch,ki_BadSet_ValueError,em_BadSet,ki_Parted_BadRow,ki_Parted_BadSet,ki_Parted_NoTree,ki_Parted_NoSuch,ki_Parted_ValueError,em_Parted,ki_NoTree_BadRow,ki_NoTree_BadSet,ki_NoTree_Parted,ki_NoTree_NoSuch,ki_NoTree_ValueError,em_NoTree,ki_NoSuch_BadRow,ki_NoSuch_BadSet,ki_NoSuch_Parted,ki_NoSuch_NoTree,ki_NoSuch_ValueError,em_NoSuch⟩:=hX;have T:My.Txt (L2.KOf KX) mg ⟨aZ0,dZ0,aZ1,dZ1,aZ2,dZ2,aZ3,dZ3,aZ4,dZ4,aZ5,dZ5,aZ6,dZ6,aZ7,dZ7,aZ8,dZ8,aZ9,dZ9,aZa,dZa,aZb,dZb,aZc,dZc,aZd,dZd,aZe,dZe,aZf,dZf,aZg,dZg,aZh,dZh,aZi,dZi,aZj,dZj,aZk,dZk,aZl,dZl,aZm,dZm,aZn,dZn,aZo,dZo,aZp,dZp,aZq,dZq,aZr,dZr,aZs,dZs,aZt,dZt,aZu,dZu,aZv,dZv,aZw,dZw,aZx,dZx,aZy,dZy,aZz,dZz,aZA,dZA,aZB,dZB,aZC,dZC,aZD,dZD,aZE,dZE,aZF,dZF,aZG,dZG,aZH,dZH,aZI,dZI,aZJ,dZJ,aZK,dZK,aZL,dZL,aZM,dZM,aZN,dZN,aZO,dZO,aZP,dZP,aZQ,dZQ,A_Web,A_WebError,A_BadSet,A_Parted,A_NoTree,A_NoSuch,A_BadRow⟩:=⟨fZ0,fZ0.binds (λ_ _ _ _ _ _=>My.un1 λ_=>rfl),mZ0,fZ1,fZ1.binds (λ_ _ _ _ _ _=>My.un3 λ_ _ _=>rfl),mZ1,fZ2,fZ2.binds (λ_ _ _ _ _ _=>My.un1 λ_=>rfl),mZ2,fZ3,fZ3.binds (λ_ _ _ _ _ _=>My.un1 λ_=>rfl),mZ3,fZ4,fZ4.binds (λ_ _ _ _ _ _=>My.un2 λ_ _=>rfl),mZ4,fZ5,fZ5.binds (λ_ _ _ _ _ _=>My.un2 λ_ _=>rfl),mZ5,fZ6,fZ6.binds (λ_ _ _ _ _ _=>My.un2 λ_ _=>rfl),mZ6,fZ7,fZ7.binds (λ_ _ _ _ _ _=>My.un2 λ_ _=>rfl),mZ7,fZ8,fZ8.binds (λ_ _ _ _ _ _=>My.un3 λ_ _ _=>rfl),fZ9,fZ9.binds (λ_ _ _ _ _ _=>My.un2 λ_ _=>rfl),mZ9,fZa,fZa.binds (λ_ _ _ _ _ _=>My.un1 λ_=>rfl),mZa,fZb,fZb.binds (λ_ _ _ _ _ _=>My.un2 λ_ _=>rfl),mZb,fZc,fZc.binds (λ_ _ _ _ _ _=>My.un2 λ_ _=>rfl),mZc,fZd,fZd.binds (λ_ _ _ _ _ _=>My.un2 λ_ _=>rfl),mZd,fZe,fZe.binds (λ_ _ _ _ _ _=>My.un2 λ_ _=>rfl),mZe,fZf,fZf.binds (λ_ _ _ _ _ _=>My.un3 λ_ _ _=>rfl),mZf,fZg,fZg.binds (λ_ _ _ _ _ _=>My.un2 λ_ _=>rfl),mZg,fZh,fZh.binds (λ_ _ _ _ _ _=>My.un2 λ_ _=>rfl),mZh,fZi,fZi.binds (λ_ _ _ _ _ _=>My.un2 λ_ _=>rfl),mZi,fZj,fZj.binds (λ_ _ _ _ _ _=>My.un1 λ_=>rfl),mZj,fZk,fZk.binds (λ_ _ _ _ _ _=>My.un2 λ_ _=>rfl),mZk,fZl,fZl.binds (λ_ _ _ _ _ _=>My.un1 λ_=>rfl),mZl,fZm,fZm.binds (λ_ _ _ _ _ _=>My.un1 λ_=>rfl),mZm,fZn,fZn.binds (λ_ _ _ _ _ _=>My.un3 λ_ _ _=>rfl),mZn,fZo,fZo.binds (λ_ _ _ _ _ _=>My.un2 λ_ _=>rfl),mZo,fZp,fZp.binds (λ_ _ _ _ _ _=>My.un2 λ_ _=>rfl),mZp,fZq,fZq.binds (λ_ _ _ _ _ _=>My.un3 λ_ _ _=>rfl),mZq,fZr,fZr.binds (λ_ _ _ _ _ _=>My.un1 λ_=>rfl),mZr,fZs,fZs.binds (λ_ _ _ _ _ _=>My.un3 λ_ _ _=>rfl),mZs,fZt,fZt.binds (λ_ _ _ _ _ _=>My.un2 λ_ _=>rfl),mZt,fZu,fZu.binds (λ_ _ _ _ _ _=>My.un2 λ_ _=>rfl),mZu,fZv,fZv.binds (λ_ _ _ _ _ _=>My.un2 λ_ _=>rfl),mZv,fZw,fZw.binds (λ_ _ _ _ _ _=>My.un2 λ_ _=>rfl),mZw,fZx,fZx.binds (λ_ _ _ _ _ _=>My.un3 λ_ _ _=>rfl),mZx,fZy,fZy.binds (λ_ _ _ _ _ _=>My.un2 λ_ _=>rfl),mZy,fZz,fZz.binds (λ_ _ _ _ _ _=>My.un2 λ_ _=>rfl),mZz,fZA,fZA.binds (λ_ _ _ _ _ _=>My.un3 λ_ _ _=>rfl),mZA,fZB,fZB.binds (λ_ _ _ _ _ _=>My.un3 λ_ _ _=>rfl),mZB,fZC,fZC.binds (λ_ _ _ _ _ _=>My.un2 λ_ _=>rfl),mZC,fZD,fZD.binds (λ_ _ _ _ _ _=>My.un3 λ_ _ _=>rfl),mZD,fZE,fZE.binds (λ_ _ _ _ _ _=>My.un3 λ_ _ _=>rfl),mZE,fZF,fZF.binds (λ_ _ _ _ _ _=>My.un5 λ_ _ _ _ _=>rfl),mZF,fZG,fZG.binds (λ_ _ _ _ _ _=>My.un4 λ_ _ _ _=>rfl),mZG,fZH,fZH.binds (λ_ _ _ _ _ _=>My.un3 λ_ _ _=>rfl),mZH,fZI,fZI.binds (λ_ _ _ _ _ _=>My.un2 λ_ _=>rfl),mZI,fZJ,fZJ.binds (λ_ _ _ _ _ _=>My.un2 λ_ _=>rfl),mZJ,fZK,fZK.binds (λ_ _ _ _ _ _=>My.un3 λ_ _ _=>rfl),mZK,fZL,fZL.binds (λ_ _ _ _ _ _=>My.un3 λ_ _ _=>rfl),mZL,fZM,fZM.binds (λ_ _ _ _ _ _=>My.un3 λ_ _ _=>rfl),mZM,fZN,fZN.binds (λ_ _ _ _ _ _=>My.un2 λ_ _=>rfl),mZN,fZO,fZO.binds (λ_ _ _ _ _ _=>My.un5 λ_ _ _ _ _=>rfl),mZO,fZP,fZP.binds (λ_ _ _ _ _ _=>My.un5 λ_ _ _ _ _=>rfl),mZP,fZQ,fZQ.binds (λ_ _ _ _ _ _=>My.un1 λ_=>rfl),mZQ,c_Web,cl_Web,k_Web,na_Web _ (by simp),na_Web _ (by simp),c_WebError,c_BadSet,c_Parted,c_NoTree,c_NoSuch,c_BadRow,x_BadRow,x_BadSet,x_Parted,x_NoTree,x_NoSuch,ki_BadRow_BadSet,ki_BadRow_Parted,ki_BadRow_NoTree,ki_BadRow_NoSuch,ki_BadRow_ValueError,em_BadRow,ki_BadSet_BadRow,ki_BadSet_Parted,ki_BadSet_NoTree,ki_BadSet_NoSuch,ki_BadSet_ValueError,em_BadSet,ki_Parted_BadRow,ki_Parted_BadSet,ki_Parted_NoTree,ki_Parted_NoSuch,ki_Parted_ValueError,em_Parted,ki_NoTree_BadRow,ki_NoTree_BadSet,ki_NoTree_Parted,ki_NoTree_NoSuch,ki_NoTree_ValueError,em_NoTree,ki_NoSuch_BadRow,ki_NoSuch_BadSet,ki_NoSuch_Parted,ki_NoSuch_NoTree,ki_NoSuch_ValueError,em_NoSuch,h_MOST_PLACES,h_MOST_TIES,h_ValueError,h_enumerate,h_int,h_isinstance,h_len,h_list,h_max,h_min,h_range,h_set,h_sorted,h_sum,h_tuple,h_zip⟩
  have e0:=hmg.symm.trans mZQ;cases e0;exact⟨dZQ,λs u=>My.law_binds fZQ s u,λbase _ _ HB=>My.okZQ T ⟨c_lam,e_lam,z_lam,HB,by decide⟩⟩
#print axioms PySem.Challenge.cw_spanrow_k68_lengths_refused_holds
