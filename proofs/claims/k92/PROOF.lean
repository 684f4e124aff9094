import PyProof.Rows.All
import Wide.All
import OpenK.AllK
import Wide.FinOn
import Lean
import PyProof.EqAt
import PyProof.EqKinds
import PyProof.TupleCall
import PySem.Challenge.RW_spanrow_k92_whole_far_numbers
set_option Elab.async false
set_option linter.all false
set_option bootstrap.genMatcherCode false
set_option genSizeOf false
set_option maxRecDepth 100000
namespace PySem.W.Fast
def tw7341303307726208952:=Nat
def tw10590874532822976562:=Nat
def tw6382591721233128331:=Nat
def tw8182475255484512988:=Nat
def tw8098321236854132599:=Nat
def tw14848970836773487078:=Nat
def tw17012951992892550808:=Nat
def tw15924015817239176767:=Nat
def tw6827525656225860630:=Nat
def tw13639171915039796735:=Nat
def tw11644098370326201736:=Nat
def tw14409247384464112397:=Nat
def tw11986916253860534699:=Nat
def tw17128717594004999906:=Nat
def tw12574195833567467599:=Nat
def tw9413942918830608247:=Nat
def tw4430453130370394252:=Nat
def tw3289951508670677450:=Nat
def tw8395471309155717294:=Nat
def tw15603344782487620069:=Nat
def tw4034431987468107132:=Nat
def tw5887327218093763777:=Nat
def tw7680865492422325196:=Nat
def tw13770682430996545659:=Nat
def tw13279295300443428984:=Nat
def tw6976019258581255170:=Nat
def tw2391085499205228111:=Nat
def tw17689465600052023603:=Nat
def tw5175905335297257742:=Nat
def tw10183650867416118215:=Nat
def tw4473650320874218000:=Nat
def tw5638808062671286397:=Nat
def tw18193580502552105803:=Nat
def tw13811103420854645988:=Nat
def tw662538069273567879:=Nat
def tw6097413046847608482:=Nat
def tw2683144810272542752:=Nat
def tw17794614414009600636:=Nat
def tw18213852569305905416:=Nat
def tw2470365930719463426:=Nat
def tw14407319000253164918:=Nat
def tw5140263655635644506:=Nat
def tw9527519649620479589:=Nat
def tw16799161585565353374:=Nat
def tw17001557813686008620:=Nat
def tw7239385232466974108:=Nat
def tw14128317490862207519:=Nat
def tw1866985769136381021:=Nat
def tw7528924256896657053:=Nat
def tw13952173429824628531:=Nat
def tw13887226163147338463:=Nat
def tw11727381040498732742:=Nat
def tw2490274416384770391:=Nat
def tw11666420371371493920:=Nat
def tw2128294545649950463:=Nat
def tw8755978632064432730:=Nat
def tw1907637270374445389:=Nat
def tw3795982097293008036:=Nat
def tw7044832708264138587:=Nat
def tw3109974454523994198:=Nat
def tw10805407631621000088:=Nat
def tw11917089520847042461:=Nat
def tw15246903202829779538:=Nat
def tw2145024883738609957:=Nat
def tw7157404128783400285:=Nat
def tw5035563919191283861:=Nat
def tw12705474919827064097:=Nat
def tw15879632628373321062:=Nat
def tw6527146858475582553:=Nat
def tw4898875201177202270:=Nat
def tw4086760492688108642:=Nat
def tw13565749207001605060:=Nat
def tw9006459102716129966:=Nat
def tw1123056845480131138:=Nat
def tw6265377426057212690:=Nat
def tw17121155413767502188:=Nat
def tw11177497857515647231:=Nat
def tw895565113419853526:=Nat
def tw10535671424124103482:=Nat
def tw13010636159627830458:=Nat
def tw3512568569045856234:=Nat
def tw4492774754812792996:=Nat
def tw16856627860022954361:=Nat
def tw10650555937178110428:=Nat
def tw15558468745406222817:=Nat
def tw14230342189422549543:=Nat
def tw798994041052525543:=Nat
def tw9575105958746106236:=Nat
def tw14201225350587039347:=Nat
def tw5091741264233281526:=Nat
def tw5379448084975104932:=Nat
def tw9884624762212995200:=Nat
def tw17722147696090351952:=Nat
def tw4370784929100660079:=Nat
def tw15138836175476143959:=Nat
def tw18111192850619897385:=Nat
def tw12855448686651299378:=Nat
def tw1494141793905053305:=Nat
def tw16602306349399286341:=Nat
def tw10441608008643707212:=Nat
def tw7391649222103211227:=Nat
def tw2345505926564336142:=Nat
def tw9723000846519278069:=Nat
def tw7366708741308123401:=Nat
def tw3111361085882134967:=Nat
def tw12606519005581505439:=Nat
def tw6517548325863638876:=Nat
def tw10435732328212549096:=Nat
def tw4868397136775816791:=Nat
def tw707424576379517944:=Nat
def tw16106428471646447547:=Nat
def tw2732105221471364865:=Nat
def tw3156592860457639752:=Nat
def tw2918064995114874896:=Nat
def tw4990290930475361714:=Nat
def tw15705628904004689806:=Nat
def tw9024839193427771943:=Nat
def tw11554749056655371137:=Nat
def tw8006227660889784053:=Nat
def tw13200315291647003389:=Nat
def tw18258814711639635902:=Nat
def tw16279492968952807007:=Nat
def tw1350516403922288486:=Nat
def tw12925479631653047051:=Nat
def tw6871846262509983201:=Nat
def tw3049158348466765374:=Nat
def tw17433270372515076884:=Nat
def tw586228591301436648:=Nat
def tw11042344064113528406:=Nat
def tw4589682335404816850:=Nat
def tw4425030262701743841:=Nat
def tw8654279141643771107:=Nat
def tw1745231306960349618:=Nat
def tw12948535107833906622:=Nat
def tw1625570388610221807:=Nat
def tw2619100575429842689:=Nat
def tw9894969283996614662:=Nat
def tw3669099381191602426:=Nat
def tw13559373775212957418:=Nat
def tw15355017806155824753:=Nat
def tw17062733302399793408:=Nat
def tw13475148806352661671:=Nat
def tw130490740018491222:=Nat
def tw12446807879584275708:=Nat
def tw11604969420842850776:=Nat
def tw17537779745551732238:=Nat
def tw7374166411550849307:=Nat
def tw17375630084355528089:=Nat
def tw3238479630579086811:=Nat
def tw9852797129989711998:=Nat
def tw6573550587060785883:=Nat
def tw663180046778733998:=Nat
def tw12488764663127959729:=Nat
def tw16652181480620344826:=Nat
def tw3969988238028780202:=Nat
def tw3527258126917675110:=Nat
def tw18151381986674378947:=Nat
def tw3933849893282970894:=Nat
def tw2054464083088073549:=Nat
def tw15924617304181635217:=Nat
def tw16405699001455419879:=Nat
def tw13522130675744855045:=Nat
def tw2074278271237658254:=Nat
def tw4161629867803371878:=Nat
def tw11371385361792347869:=Nat
def tw5231195645223205523:=Nat
def tw14716765466405947141:=Nat
end PySem.W.Fast
theorem Z{α:Sort _}{a:α}:a=a:=rfl
abbrev Aa:=List (Int×Int)
abbrev Ab:=List (List Int)
abbrev Ac:=List Int
abbrev Ad:=PySem.W.Frag
abbrev Ae:=PySem.Value->PySem.Shared->Prop
abbrev Af:=PySem.Str->Option PySem.Value
abbrev Ag:=List PySem.Value
theorem J{p:Prop}(h:p:=by lia):p:=h
theorem B{p:Prop}(h:p:=by decide +kernel):p:=h
theorem uB{p:Prop}(h:p:=by decide):p:=h
theorem S{p:Prop}(h:p:=by simp):p:=h
theorem uD{p:Prop}(h:p:=by omega):p:=h
theorem uE{p:Prop}(h:p:=by grind):p:=h
theorem uG{p:Prop}(h:p:=by rfl):p:=h
theorem uH{p:Prop}(h:p:=by kernel_rfl):p:=h
def Xw:=@List.getElem?_eq_getElem
def Xr:=@List.getElem?_eq_some_iff
def XG:=@List.mem_singleton
def XU:=@PySem.wpAny_bind
def Xu:=@List.length_append
def XE:=@List.mem_append
def Xi:=@List.mem_of_getElem?
def Xc:=@PySem.Heap.get?_push_of_some
def XJ:=@Nat.le_refl
def Xd:=@List.mem_cons_self
def Ya:=@List.getD_eq_getElem?_getD
def Yb:=@List.length_map
def Yc:=@List.size_toArray
def Yd:=@List.mem_append_left
def Ye:=@Option.some.inj
def Yf:=@List.mem_cons_of_mem
def Yg:=@List.mem_cons
def Yh:=@List.mem_filter
def Yi:=@List.mem_append_right
def Yj:=@Nat.zero_le
def Yk:=@PySem.Heap.get?_push_size
def Yl:=@List.getElem?_map
def Ym:=@PySem.wpAny_pure
def Yn:=@List.length_take
def Yo:=@List.getElem?_append_right
def Yp:=@decide_eq_true
def Yq:=@PySem.Heap.lt_size
def Yr:=@of_decide_eq_true
def Ys:=@List.getElem?_append_left
def Yt:=@List.length_cons
def Yu:=@List.length_singleton
def Yv:=@Nat.le_trans
def Yw:=@Nat.lt_of_lt_of_le
def Yx:=@Classical.byContradiction
def Yy:=@Bool.false_ne_true
def Yz:=@List.mem_map
def YA:=@Int.toNat_natCast
def YB:=@Nat.ne_of_lt
def YC:=@Array.getD_eq_getD_getElem?
def YD:=@List.take_length
def YE:=@Array.length_toList
def YF:=@List.length_filter_le
def YG:=@List.map_append
def YH:=@Array.getElem?_eq_getElem
def YI:=@List.append_nil
def YJ:=@List.take_succ
def YK:=@List.mem_range
def YL:=@PySem.F.plainAttrs_list
def YM:=@List.nodup_append
def YN:=@List.length_replicate
def YO:=@List.take_of_length_le
def QP:=@List.pairwise_cons
def YQ:=@PySem.PassesOwn.never
def YR:=@decide_eq_false
def YS:=@List.length_reverse
def YT:=@List.filter_cons
def YU:=@PySem.Heap.get?_update_other
def YV:=@decide_eq_true_iff
def YW:=@Array.getElem?_toList
def YX:=@Int.emod_lt_of_pos
def YY:=@List.length_eq_zero_iff
def YZ:=@Int.emod_nonneg
def VX:=@List.getElem?_of_mem
def Wt:=@List.length_drop
def VF:=@PySem.Heap.get?_update_self
def VW:=@List.map_congr_left
def Xy:=@congrArg
def XI:=@Ne.symm
def Ws:=@Nat.not_lt_zero
def Vs:=@List.getElem?_eq_none
def Ug:=@PyProof.Rows.callWith_type1
def Wd:=@List.append_assoc
def NT:=@PySem.F.type_list_append
def NS:=@PySem.F.slot_list_append
def UI:=@List.map_cons
def RR:=@PySem.Obj.data_mapFields
def NR:=@List.pairwise_singleton
def PN:=@List.pairwise_append
def LM:=@List.perm_ext_iff_of_nodup
def Qs:=@List.filter_append
def NQ:=@PySem.builtinLookup_eq_fast
def Ro:=@List.all_eq_true
def PM:=@PySem.Heap.SameBut.update
def RQ:=@List.nodup_cons
def Qr:=@PySem.wpAny_newObj_type
def RP:=@PySem.codeAny_builtin
def PL:=@List.length_range
def Sw:=@Nat.lt_irrefl
def Ka:=@List.pairwise_iff_getElem
def LL:=@List.drop_eq_nil_of_le
def PK:=@PySem.wpAny_truthy_bool
def Qq:=@Bool.eq_iff_iff
def NP:=@PySem.wpAny_Call_Name_kw
def Nj:=@List.length_zipWith
def TH:=@Nat.le_succ
def LK:=@List.getElem?_zipWith
def RO:=@Int.mul_assoc
def PJ:=@PySem.wpAny_call_entry
def TF:=@PySem.sizeLine_eq
def RN:=@PySem.wpAny_holding
def NO:=@Nat.lt_succ_self
def Fm:=@List.eq_nil_iff_forall_not_mem
def RM:=@Int.mul_zero
def JZ:=@List.getElem?_reverse
def SM:=@PySem.wpAny_of_eq
def Sv:=@Int.one_mul
def Rn:=@Nat.ne_of_gt
def Ni:=@List.getElem_mem
def Rm:=@Int.add_zero
def NN:=@PySem.typeLookup_type
def LJ:=@decide_eq_true_eq
def LI:=@List.pairwise_map
def LH:=@List.filter_congr
def JY:=@PySem.mem_of_lookup
def JX:=@List.replicate_succ
def JW:=@List.map_eq_nil_iff
def Nh:=@PySem.F.plain_min_loop
def JV:=@PySem.Around.under_plainId
def GR:=@PySem.wpAny_callSpecial?_slot
def Ng:=@List.nil_append
def Nf:=@List.length_nil
def SK:=@PySem.wpAny_mono
def LG:=@List.lookup_cons
def LF:=@List.any_eq_true
def UH:=@PySem.Heap.size_push
def Ve:=@Nat.sub_self
def Vd:=@Int.mul_comm
def Rj:=@PySem.Obj.isFreed_of_fields
def Tp:=@List.length_set
def Ri:=@List.getElem_of_mem
def Rh:=@List.getElem?_range
def Ue:=@PySem.wpAny_setField
def Ud:=@PySem.isSubtype_type
def VE:=@beq_iff_eq
def Fl:=@PySem.F.slot_str_split
def Fj:=@PySem.F.plainAttrs_str
def Fi:=@List.pairwise_lt_range
def Fh:=@List.length_pos_of_mem
def JU:=@Bool.and_eq_true
def Fg:=@Array.getElem?_eq_none
def GQ:=@List.getElem?_take
def Nd:=@PySem.plainId_quiet
def zd:=@Array.perm_iff_toList_perm
def GP:=@Nat.lt_succ_of_lt
def GO:=@List.ext_getElem?
def GN:=@Bool.eq_false_iff
def Nc:=@Nat.succ.inj
def Nb:=@Nat.le_of_lt
def Ff:=@List.mem_of_mem_take
def zb:=@List.getElem?_eq_none_iff
def JT:=@PySem.wpAny_passesOwn
def Fe:=@beq_eq_false_iff_ne
def JS:=@Nat.mul_le_mul
def GL:=@List.mem_reverse
def y9:=@List.eq_of_mem_replicate
def GK:=@List.cons_append
def GJ:=@PySem.wpAny_setState_of
def LD:=@PySem.wpAny_attempt
def y8:=@List.getElem?_replicate
def LC:=@Nat.zero_add
def LB:=@List.map_map
def Fd:=@List.getElem?_drop
def Lz:=@Int.zero_add
def Na:=@Int.mul_one
def Fc:=@Bool.false_eq_true
def Fb:=@PySem.wpAny_setEntries_of
def JR:=@PySem.wpAny_seqItems
def GI:=@PySem.wpAny_isInstance
def GH:=@PySem.wpAny_askSetting
def JQ:=@List.sum_cons
def EZ:=@List.getElem?_set
def EY:=@List.flatten_cons
def Ly:=@PySem.codeAny_mono
def vK:=@List.take_append_of_le_length
def vJ:=@List.drop_append_of_le_length
def Lx:=@PySem.F.called_set
def GG:=@PySem.wpAny_specialOf
def Lw:=@Int.le_refl
def JP:=@PySem.wpAny_newList
def EX:=@decide_eq_decide
def NM:=@PySem.call_meets
def JO:=@Int.pow_zero
def y7:=@List.filter_eq_self
def y6:=@List.filterMap_cons
def EW:=@and_congr_right
def EV:=@Nat.min_eq_left
def PH:=@List.range_succ
def JN:=@List.length_eraseIdx_of_lt
def MZ:=@Nat.lt_of_le_of_lt
def JM:=@List.drop_eq_getElem_cons
def Su:=@Int.mul_add
def Ss:=@PyProof.Rows.listUpdate_at
def JL:=@PySem.F.args_tuple_add_2
def JK:=@PySem.F.args_str_split_2
def JJ:=@Option.isSome_iff_exists
def JI:=@List.length_erase_of_mem
def GF:=@Int.sub_zero
def GD:=@Int.le_trans
def GC:=@Int.le_of_lt
def yZ:=@List.getElem?_inj
def yY:=@List.foldl_append
def yX:=@Int.mul_left_comm
def vH:=@PySem.F.entry_tuple_add
def vG:=@PySem.F.entry_str_split
def vE:=@List.filter_cons_of_neg
def vD:=@Int.eq_ofNat_of_zero_le
def EU:=@PySem.W.mg_of
def vC:=@PySem.F.slot_tuple_add
def yW:=@Nat.succ_le_succ
def yV:=@Nat.le_of_not_lt
def yU:=@List.length_tail
def vB:=@List.getElem?_eraseIdx
def vA:=@List.drop_of_length_le
def ET:=@List.cons.inj
def ES:=@List.any_cons
def yT:=@PySem.Code.quiet_builtin
def ER:=@PySem.wpAny_tryCatch
def yS:=@PySem.wpAny_pyIter_list
def yR:=@PySem.Obj.cls_mapFields
def yQ:=@List.foldl_cons
def yP:=@List.find?_cons
def vy:=@Nat.pow_le_pow_right
def vw:=@List.mem_of_getLast?
def vt:=@List.mem_erase_of_ne
def vq:=@List.length_eraseIdx
def EO:=@Int.zero_mul
def EN:=@Int.pow_succ
def EM:=@PySem.signature?_of
def GB:=@Int.not_lt
def yN:=@PySem.F.entry_min_loop
def vp:=@Array.toList_append
def GA:=@PySem.wpAny_letGo
def vo:=@Nat.add_sub_cancel
def vn:=@List.map_singleton
def yM:=@PySem.wpAny_updateSeq
def yL:=@PySem.wpAny_execs_nil
def NL:=@if_true
def yK:=@List.take_nil
def EL:=@PySem.wpAny_typeOf
def vm:=@PySem.wpAny_pyIter_revIter
def gF:=@PyProof.Rows.callWith_builtin1
def vk:=@List.reverse_cons
def vj:=@Array.toList_push
def vi:=@PyProof.Rows.F.plain_set_update_loop
def yJ:=@PySem.wpAny_runValue
def Gz:=@PySem.wpAny_rule
def yH:=@PySem.wpAny_fieldsOf
def Gy:=@PySem.typeIs_str
def Sr:=@if_false
def JH:=@beq_self_eq_true
def EK:=@PySem.F.slot_dict_setdefault
def MY:=@Nat.sub_zero
def MX:=@Nat.mul_comm
def JG:=@Nat.min_eq_right
def JF:=@List.not_mem_nil
def EJ:=@List.dropLast_concat_getLast
def JE:=@Int.min_eq_right
def JD:=@Int.max_eq_right
def EI:=@PyProof.Rows.firstMet_succ
def EH:=@PySem.wpAny_field
def vh:=@beq_false_of_ne
def vg:=@PySem.SeqAt.EqAt.of_refs
def gE:=@PySem.F.slot_tuple_getitem
def vf:=@Option.map_some
def ve:=@Nat.le_antisymm
def vd:=@List.of_mem_zip
def vc:=@List.filter_nil
def va:=@Int.min_eq_left
def uZ:=@Int.max_eq_left
def uY:=@PySem.Calls.spliced_cons
def uX:=@Bool.or_eq_true
def gD:=@Array.getElem?_eq_some_iff
def gC:=@PySem.F.plain_extend_loop
def yG:=@Int.neg_mul
def gB:=@Int.eq_of_mul_eq_mul_left
def yE:=@Int.add_mul
def uW:=@PySem.wpAny_pyIter_slot
def yD:=@PyProof.Rows.get?_update_seq
def gz:=@PySem.F.type_list_extend
def gy:=@PySem.F.slot_list_extend
def gx:=@PySem.F.slot_dict_values
def uV:=@List.take_zero
def gu:=@List.sublist_append_left
def gr:=@List.mem_of_mem_eraseIdx
def gq:=@List.getElem?_take_of_lt
def uU:=@List.drop_zero
def gp:=@List.Pairwise.imp_of_mem
def uS:=@Int.natAbs_mul
def uR:=@PySem.Calls.spliced_nil
def uQ:=@PyProof.Rows.entry_proto_collect'
def gn:=@PySem.F.type_list_index
def gm:=@PySem.F.slot_list_index
def gk:=@PySem.F.plainAttrs_dict
def gj:=@List.pairwise_mergeSort
def gh:=@List.filter_cons_of_pos
def EG:=@PySem.wpAny_load
def EF:=@PySem.wpAny_call
def uP:=@PySem.noFill_tuple_add
def gf:=@PySem.W.cellsFrom_some
def gd:=@PySem.F.type_str_split
def gc:=@Option.map_eq_some_iff
def gb:=@List.length_eq_one_iff
def f9:=@List.getElem?_set_self
def f7:=@List.filter_eq_nil_iff
def fZ:=@PySem.F.type_str_join
def fY:=@PySem.F.type_list_pop
def fX:=@PySem.F.slot_str_join
def fW:=@PySem.F.slot_list_pop
def fV:=@List.pairwise_and_iff
def fU:=@List.getElem?_toArray
def EE:=@List.Perm.append_left
def ED:=@List.Pairwise.sublist
/-! THE HAND fS,for ints,bools,texts,own classes,fR and tuples (index,uN,in,append,pop ..),calls,loops. fQ it whole ahead of uM own text;what uM proof does not reach may be deleted. -/
namespace L2
open PySem PySem.Spec PyProof.Rows
abbrev Key:=Sum Int Str
def Rg:Key->Value->Bool
 | .inl k,v=>Value.isInt k v
 | .inr x,v=>Value.isStrOf x v
def Zaa(w:World):Key->Int
 | .inl k=>hashInt k
 | .inr x=>hashStr w x
theorem ZJ:∀{k:Key}{v:Value},Rg k v=true->(∃i t,k=Sum.inl i/\v=Value.int i t)\/(∃x t,k=Sum.inr x/\v=Value.str x t)
 | .inl i,v,h=>by obtain⟨t,e⟩:=Value.isInt_shape (k:=i) (v:=v) h;exact .inl ⟨i,t,Z,e⟩
 | .inr x,v,h=>by obtain⟨t,e⟩:=Value.isStrOf_shape (x:=x) (v:=v) h;exact .inr ⟨x,t,Z,e⟩
theorem ZT8(i:Int)(t:Tok):Rg (.inl i) (.int i t)=true:=by simp[Rg,Value.isInt]
theorem ZS8(x:Str)(t:Tok):Rg (.inr x) (.str x t)=true:=by simp[Rg,Value.isStrOf]
theorem Zab(a b:Int):decide ((Sum.inl a:Key)=Sum.inl b)=(a == b):=by
 by_cases e:a=b
 .subst e;simp
 .have h:¬(Sum.inl a:Key)=Sum.inl b:=λq=>e (Sum.inl.inj q);rw[YR h];exact(Fe.mpr e).symm
theorem Zac(a b:Str):decide ((Sum.inr a:Key)=Sum.inr b)=decide (a=b):=by
 by_cases e:a=b
 .subst e;simp
 .have h:¬(Sum.inr a:Key)=Sum.inr b:=λq=>e (Sum.inr.inj q);rw[YR h,YR e]
theorem Zad(a:Int)(b:Str):decide ((Sum.inl a:Key)=Sum.inr b)=false:=YR (λq=>nomatch q)
theorem Zae(a:Str)(b:Int):decide ((Sum.inr a:Key)=Sum.inl b)=false:=YR (λq=>nomatch q)
def Rf(prog:Program)(w:World):PySem.KeyKind prog w Key where
 is:=Rg
 hash:=Zaa w
 inj:=λv a b ha hb=>by
  rcases ZJ ha with ⟨i,t,rfl,rfl⟩|⟨x,t,rfl,rfl⟩
  .rcases ZJ hb with ⟨j,u,rfl,e⟩|⟨y,u,rfl,e⟩
   .injection e with e1 _;rw[e1]
   .exact nomatch e
  .rcases ZJ hb with ⟨j,u,rfl,e⟩|⟨y,u,rfl,e⟩
   .exact nomatch e
   .injection e with e1 _;rw[e1]
 byValue:=λk v h=>by rcases ZJ h with ⟨i,t,rfl,rfl⟩|⟨x,t,rfl,rfl⟩<;>rfl
 pyHash:=λhv h=>by
  rcases ZJ hv with ⟨i,t,rfl,rfl⟩|⟨x,t,rfl,rfl⟩
  .exact wpAny_pyHash_int h
  .exact wpAny_pyHash_str h
 eqBool:=λhu hv h=>by
  rcases ZJ hu with ⟨i,t,rfl,rfl⟩|⟨x,t,rfl,rfl⟩
  .rcases ZJ hv with ⟨j,u,rfl,rfl⟩|⟨y,u,rfl,rfl⟩
   .rw[Zab]at h;exact wpAny_eqBool_int h
   .rw[Zad]at h;exact SeqAt.EqAt.int_str i t y u _ _ _ _ h
  .rcases ZJ hv with ⟨j,u,rfl,rfl⟩|⟨y,u,rfl,rfl⟩
   .rw[Zae]at h;exact SeqAt.EqAt.str_int x t j u _ _ _ _ h
   .rw[Zac]at h;exact wpAny_eqBool_str h
 «strs»:=λk x t v h=>by
  rcases ZJ h with ⟨i,u,rfl,e⟩|⟨y,u,rfl,e⟩
  .exact nomatch e
  .injection e with e1 _;subst e1;cases v<;>rfl
theorem Zaf(prog:Program)(w:World)(i:Int)(t:Tok):(Rf prog w).is (.inl i) (.int i t)=true:=ZT8 i t
theorem Zag(prog:Program)(w:World)(x:Str)(t:Tok):(Rf prog w).is (.inr x) (.str x t)=true:=ZS8 x t
inductive V where
 |non|bl (b:Bool)|int (i:Int)|str (x:Str)|byt (b:Array UInt8)|flt (b:UInt64)|ref (a:Addr)|ty (n:String)
 deriving DecidableEq
def RelV:V->Value->Prop
 | .non,u=>u=Value.none
 | .bl b,u=>u=Value.bool b
 | .int i,u=>∃t,u=Value.int i t
 | .str x,u=>∃t,u=Value.str x t
 | .byt b,u=>∃t,u=Value.bytes b t
 | .flt b,u=>∃t,u=Value.float b t
 | .ref a,u=>u=Value.ref a
 | .ty n,u=>u=Value.type n
abbrev Vals:List V->List Value->Prop:=Paired RelV
theorem Vals.length{xs:List V}{us:Ag}(r:Vals xs us):xs.length=us.length:=Paired.length r
theorem Vals.get{xs:List V}{us:Ag}{i:Nat}{x:V}(h:Vals xs us)(e:xs[i]?=some x):∃u,us[i]?=some u/\RelV x u:=by
 induction h generalizing i with
 |nil=>simp at e
 |cons r t ih=>
  cases i with
  |zero=>simp at e;subst e;exact⟨_,Z,r⟩
  |succ i=>
   obtain⟨u,h1,h2⟩:=ih (i:=i) (by simpa using e);exact⟨u,by simpa using h1,h2⟩
theorem Vals.set(r:RelV x u){xs:List V}{us:Ag}(i:Nat)(h:Vals xs us):Vals (xs.set i x) (us.set i u):=by
 induction h generalizing i with
 |nil=>exact .nil
 |cons q t ih=>
  cases i with
  |zero=>exact .cons r t
  |succ i=>exact .cons q (ih i)
theorem Vals.append{xs ys:List V}{us ws:Ag}(h:Vals xs us)(s:Vals ys ws):Vals (xs++ys) (us++ws):=by
 induction h with
 |nil=>exact s
 |cons r t ih=>exact .cons r ih
theorem Vals.take{xs:List V}{us:Ag}(n:Nat)(h:Vals xs us):Vals (xs.take n) (us.take n):=by
 induction h generalizing n with
 |nil=>cases n<;>exact .nil
 |cons r t ih=>
  cases n with
  |zero=>exact .nil
  |succ n=>exact .cons r (ih n)
theorem Vals.drop{xs:List V}{us:Ag}(n:Nat)(h:Vals xs us):Vals (xs.drop n) (us.drop n):=by
 induction h generalizing n with
 |nil=>cases n<;>exact .nil
 |cons r t ih=>
  cases n with
  |zero=>exact .cons r t
  |succ n=>exact ih n
def RelO:Option V->Option Value->Prop
 |some v,some u=>RelV v u
 |none,none=>True
 |_,_=>False
def KV{κ:Type}:List (κ×V)->List (κ×Value)->Prop:=Paired λ(p:κ×V) (q:κ×Value)=>p.1=q.1/\RelV p.2 q.2
def kV:Key->V
 | .inl i=>.int i
 | .inr x=>.str x
inductive HO where
 |lst (xs:List V)
 |tup (xs:List V)
 |dK (kvs:List (Key×V))|dT (kvs:List (List Key×V))
 |set (uz:Int->Bool) (n:Nat)
 |ins (C dx:Addr) (fs:List (Str×V))
 |own (x:Addr)
 |xd (fs:List (Str×V))
 |met (f x:Addr)
 |rng (lo hi:Int)
 |frz (o:Obj) (u:HO)
 |tbl (ps:Array Value)
 |ext (φ:Heap->Prop)
abbrev Hp:=Addr->Option HO
def upd(H:Hp)(a:Addr)(o:HO):Hp:=λb=>if b=a then some o else H b
theorem XS:upd H a o a=some o:=by unfold upd;rw[if_pos Z]
theorem Zb(h:b≠a):upd H a o b=H b:=by unfold upd;rw[if_neg h]
theorem MW{H:Hp}{a b:Addr}{o u:HO}(h:H a=some o)(h':H b=some u)(d:o≠u):a≠b:=by intro e;subst e;rw[h]at h';exact d (Ye h')
theorem Za{H:Hp}{a b:Addr}{o:HO}(h:H a=some o)(h':H b=none):a≠b:=by intro e;subst e;rw[h]at h';cases h'
section
variable(P:Program)(w:World)
def ObjOk(H:Hp)(h:Heap)(a:Addr):HO->Prop
 | .lst xs=>xs.length<=sizeLine/\∃(XT:Ag)(n:Nat),Vals xs XT/\h.get? a=some {cls:=.type "list",data:=.seq XT.toArray n}
 | .tup xs=>xs.length<=sizeLine/\∃XT:Ag,Vals xs XT/\IsTup h a XT.toArray
 | .dK kvs=>kvs.length<=sizeLine/\(a == sysModules)=false/\∃vs,KV kvs vs/\h.DictOf (Rf P w) a vs
 | .dT kvs=>kvs.length<=sizeLine/\(a == sysModules)=false/\∃xs:List (List Key×Addr×Value),
   Paired (λ(p:List Key×V) (q:List Key×Addr×Value)=>p.1=q.1/\H q.2.1=some (.tup<|p.1.map kV)/\RelV p.2 q.2.2) kvs xs/\
   ∃o es ep,h.get? a=some o/\o.ExactDict/\o.data=.dict es ep/\es.toList=xs.map (entryOfKey<|tupleKind<|Rf P w)/\(xs.map (·.1)).Nodup
 | .set uz n=>h.SetOf (intKind P w) a uz n
 | .ins C dx fs=>H dx=some (.own a)/\fs.length<=1000/\dx≠a/\h.get? a=some (PySem.W.instObj C dx)/\
   ∃mA,h.Ns1 dx mA/\(∀f,RelO (fs.lookup f)<|mA f)/\PySem.Within mA (fs.map (·.1))
 | .own _=>∃o,h.get? a=some o
 | .xd fs=>∃mA,h.Ns1 a mA/\∀f,RelO (fs.lookup f) (mA f)
 | .rng lo hi=>∃t u v,h.get? a=some {cls:=.type "range",data:=.fields #[.int lo t,.int hi u,.int 1 v]}
 | .frz o u=>h.get? a=some o/\ObjOk H h a u
 | .tbl ps=>h.get? a=some {cls:=.none,data:=.fields ps}
 | .met f x=>h.get? a=some (PySem.W.methodObj (.ref f)<|.ref x)
 | .ext φ=>φ h/\(∃o,h.get? a=some o)/\∀h1 h2:Heap,φ h1->(∀o,h1.get? a=some o->h2.get? a=some o)->φ h2
def HOk(H:Hp)(h:Heap):Prop:=∀a o,H a=some o->ObjOk P w H h a o
end
section
variable{P:Program}{w:World}{H H':Hp}{h h':Heap}{a:Addr}{o:HO}
theorem ObjOk.lt(x:ObjOk P w H h a o):a<h.objs.size:=by
 cases o with
 |lst xs=>obtain⟨_,_,_,_,e⟩:=x;exact Yq e
 |tup xs=>obtain⟨_,_,_,p⟩:=x;exact p.lt
 |dK kvs=>obtain⟨_,_,_,_,o,_,_,e,_⟩:=x;exact Yq e
 |dT kvs=>obtain⟨_,_,_,_,o,_,_,e,_⟩:=x;exact Yq e
 |set uz n=>obtain⟨o,_,_,_,e,_⟩:=x;exact Yq e
 |ins C dx fs=>obtain⟨_,_,_,e,_⟩:=x;exact Yq e
 |own y=>obtain⟨_,e⟩:=x;exact Yq e
 |xd fs=>obtain⟨_,⟨_,_,_,e,_⟩,_⟩:=x;exact Yq e
 |rng lo hi=>obtain⟨_,_,_,e⟩:=x;exact Yq e
 |frz ob u=>obtain⟨e,_⟩:=x;exact Yq e
 |tbl ps=>exact Yq (show h.get? a=some _ from x)
 |met f y=>exact Yq (show h.get? a=some _ from x)
 |ext φ=>obtain⟨_,⟨_,e⟩,_⟩:=x;exact Yq e
theorem Paired.mapP{α β:Type}{F G:α->β->Prop}{l₁:List α}{l₂:List β}(h:Paired F l₁ l₂)(f:∀a b,F a b->G a b):Paired G l₁ l₂:=by
 induction h with
 |nil=>exact .nil
 |cons r t ih=>exact .cons (f _ _ r) ih
theorem ObjOk.stay(x:ObjOk P w H h a o)(k:∀b u,(b=a\/H b=some (.own a))->h.get? b=some u->h'.get? b=some u)
  (ho:∀b,H b=some (.own a)->H' b=some (.own a))(ht:∀b xs,H b=some (.tup xs)->H' b=some (.tup xs)):ObjOk P w H' h' a o:=by
 induction o with
 |lst xs=>obtain⟨z,XT,n,r,e⟩:=x;exact⟨z,XT,n,r,k _ _ (.inl Z) e⟩
 |tup xs=>obtain⟨z,XT,r,ob,e,c⟩:=x;exact⟨z,XT,r,ob,k _ _ (.inl Z) e,c⟩
 |dK kvs=>obtain⟨z,y,vs,r,ob,es,ep,e,c⟩:=x;exact⟨z,y,vs,r,ob,es,ep,k _ _ (.inl Z) e,c⟩
 |dT kvs=>
  obtain⟨z,y,xs,r,ob,es,ep,e,c⟩:=x;exact⟨z,y,xs,Paired.mapP r λp q z=>⟨z.1,ht _ _ z.2.1,z.2.2⟩,ob,es,ep,k _ _ (.inl Z) e,c⟩
 |set uz n=>obtain⟨ob,es,ep,t,e,c⟩:=x;exact⟨ob,es,ep,t,k _ _ (.inl Z) e,c⟩
 |ins C dx fs=>
  obtain⟨d,z,ne,e,mA,⟨od,es,ep,e2,c⟩,r⟩:=x;exact⟨ho _ d,z,ne,k _ _ (.inl Z) e,mA,⟨od,es,ep,k _ _ (.inr d) e2,c⟩,r⟩
 |own y=>obtain⟨ob,e⟩:=x;exact⟨ob,k _ _ (.inl Z) e⟩
 |xd fs=>obtain⟨mA,⟨od,es,ep,e,c⟩,r⟩:=x;exact⟨mA,⟨od,es,ep,k _ _ (.inl Z) e,c⟩,r⟩
 |rng lo hi=>obtain⟨t,u,v,e⟩:=x;exact⟨t,u,v,k _ _ (.inl Z) e⟩
 |frz ob u ih=>obtain⟨e,q⟩:=x;exact⟨k _ _ (.inl Z) e,ih q⟩
 |tbl ps=>
  have e:h.get? a=some {cls:=.none,data:=.fields ps}:=x;show h'.get? a=some {cls:=.none,data:=.fields ps}
  exact k a _ (.inl Z) e
 |met f y=>
  have e:h.get? a=some (PySem.W.methodObj (.ref f)<|.ref y):=x;show h'.get? a=some (PySem.W.methodObj (.ref f)<|.ref y)
  exact k a _ (.inl Z) e
 |ext φ=>obtain⟨p,⟨o,e⟩,st⟩:=x;exact⟨st _ _ p λo q=>k _ _ (.inl Z) q,⟨o,k _ _ (.inl Z) e⟩,st⟩
theorem HOk.lt(x:HOk P w H h)(e:H a=some o):a<h.objs.size:=(x a o e).lt
theorem HOk.fresh(x:HOk P w H h)(e:h.objs.size<=a):H a=none:=by
 cases q:H a with
 |none=>rfl
 |some u=>exact absurd (Yw (x.lt q) e) (Sw _)
theorem HOk.kept(x:HOk P w H h)(k:∀b u,h.get? b=some u->h'.get? b=some u):HOk P w H h':=λa o e=>
 (x a o e).stay (λb u _ q=>k b u q) (λ_ q=>q) λ_ _ q=>q
theorem HOk.laid(x:HOk P w H h)(k:∀b u,h.get? b=some u->h'.get? b=some u)(hp:h.objs.size<=a)(new:ObjOk P w (upd H a o) h' a o):HOk P w (upd H a o) h':=λb u e=>by
 have hn:=x.fresh hp;by_cases hb:b=a
 .subst hb;rw[XS]at e;cases e;exact new
 .rw[Zb hb]at e;exact(x b u e).stay (λc v _ q=>k c v q) (λc q=>by rwa[Zb (Za q hn)]) λc xs q=>by rwa[Zb (Za q hn)]
end
def Rd(H:Hp)(a:Addr)(u:HO):Prop:=H a=some u\/∃o,H a=some (.frz o u)
theorem Rd.ok(r:Rd H a u)(x:HOk P w H h):ObjOk P w H h a u:=by
 rcases r with r|⟨o,r⟩
 .exact x a u r
 .obtain⟨_,q⟩:=x a _ r;exact q
def EC:Option HO->Prop
 |some (.lst _)=>True
 |some (.dK _)=>True
 |some (.dT _)=>True
 |some (.set _ _)=>True
 |some (.ins _ _ _)=>True
 |some (.ext _)=>True
 |_=>False
section
variable{P:Program}{w:World}{H:Hp}{h h':Heap}{x e:Addr}{o':HO}
theorem HOk.write(ok:HOk P w H h)(mu:EC (H x))(he:e=x\/H e=some (.own x))(k:∀b u,b≠e->h.get? b=some u->h'.get? b=some u)(Gx:∃u,h'.get? e=some u)
  (new:ObjOk P w (upd H x o') h' x o'):HOk P w (upd H x o') h':=λb u q=>by
 have EB:∀c y,H c=some (.own y)->c≠x:=λc y r z=>by subst z;rwa[r]at mu
 have uC:∀c xs,H c=some (.tup xs)->c≠x:=λc xs r z=>by subst z;rwa[r]at mu
 by_cases hb:b=x
 .subst hb;rw[XS]at q;cases q;exact new
 .rw[Zb hb]at q;by_cases JC:b=e
  .have q':H b=some (.own x):=by
    rcases he with z|z
    .exact absurd (JC.trans z) hb
    .rw[JC];exact z
   rw[q]at q';cases q';obtain⟨v,hv⟩:=Gx;exact⟨v,by rwa[JC]⟩
  .refine(ok b u q).stay (λc v hc r=>k c v ?_ r) (λc r=>by rwa[Zb (EB c b r)]) λc xs r=>by rwa[Zb (uC c xs r)]
   rcases hc with rfl|hc
   .exact JC
   .rintro rfl;rcases he with z|z
    .exact EB c b hc z
    .rw[hc]at z;cases z;exact hb rfl
end
structure Un(fs ex:List Addr)(H H':Hp)(h h':Heap):Prop where
 keep:∀b o,h.get? b=some o->H b=none->b∉fs->b∉ex->h'.get? b=some o
 slot:∀b o,h.get? b=some o->H b=none->b∈fs->b∉ex->∃sl,h'.get? b=some {o with slots:=sl}
 free:∀b o,h.get? b=some o->H b=none->b∉ex->H' b=none
 there:∀b o,h.get? b=some o->b∉ex->∃o',h'.get? b=some o'
 tups:∀b xs,H b=some (.tup xs)->H' b=some (.tup xs)
 frzs:∀b o u,H b=some (.frz o u)->H' b=some (.frz o u)
 tbls:∀b ps,H b=some (.tbl ps)->∃more,H' b=some (.tbl<|ps++more)
section
variable{fs ex:List Addr}{H H1:Hp}{h h1 h':Heap}{a x e:Addr}{o:HO}
theorem Un.any(u:Un fs ex H H1 h h1){ob:Obj}(q:h.get? b=some ob)(n:H b=none)(hx:b∉ex):∃sl,h1.get? b=some {ob with slots:=sl}:=by
 by_cases hb:b∈fs
 .exact u.slot b ob q n hb hx
 .exact⟨ob.slots,u.keep b ob q n hb hx⟩
theorem Un.kept(k:∀b u,h.get? b=some u->h'.get? b=some u):Un fs ex H H h h':=
 ⟨λb ob q _ _ _=>k b ob q,λb ob q _ _ _=>⟨ob.slots,k b ob q⟩,λ_ _ _ n _=>n,λb ob q _=>⟨ob,k b ob q⟩,λ_ _ q=>q,λ_ _ _ q=>q,λ_ ps q=>⟨#[],by rw[q];simp⟩⟩
theorem Un.refl:Un fs ex H H h h:=Un.kept λ_ _ q=>q
theorem Un.laid(k:∀b u,h.get? b=some u->h'.get? b=some u)(hp:h.objs.size<=a)(hn:H a=none):Un fs ex H (upd H a o) h h' where
 keep:=λb u q _ _ _=>k b u q
 slot:=λb u q _ _ _=>⟨u.slots,k b u q⟩
 free:=λb u q n _=>by rwa[Zb (YB<|Yw (Yq q) hp)]
 there:=λb u q _=>⟨u,k b u q⟩
 tups:=λb xs q=>by rwa[Zb (Za q hn)]
 frzs:=λb u xs q=>by rwa[Zb (Za q hn)]
 tbls:=λb ps q=>⟨#[],by rw[Zb (Za q hn),q];simp⟩
theorem Un.write(mu:EC (H x))(he:e=x\/H e=some (.own x))(k:∀b u,b≠e->h.get? b=some u->h'.get? b=some u)(Gx:∃u,h'.get? e=some u):Un fs ex H (upd H x o) h h':=by
 have hx:∀b,H b=none->b≠x:=λb n z=>by subst z;rwa[n]at mu
 have hb:∀b,H b=none->b≠e:=λb n z=>by
  subst z;rcases he with r|r
  .exact hx b n r
  .rw[n]at r;cases r
 have hm:∀b u,H b=some u->¬EC (some u)->b≠x:=λb u q nm z=>by subst z;rw[q]at mu;exact nm mu
 refine⟨λb u q n _ _=>k b u (hb b n) q,λb u q n _ _=>⟨u.slots,k b u (hb b n) q⟩,λb u q n _=>by rw[Zb (hx b n)];exact n,λb u q _=>?_,
  λb xs q=>by rw[Zb (hm b _ q λz=>z)];exact q,λb u xs q=>by rw[Zb (hm b _ q λz=>z)];exact q,λb ps q=>⟨#[],by rw[Zb (hm b _ q λz=>z),q];simp⟩⟩
 by_cases JC:b=e
 .subst JC;exact Gx
 .exact⟨u,k b u JC q⟩
end
def yC(h:Heap)(H:Hp):List Addr:=(List.range h.objs.size).filter λa=>(H a).isSome
def UG(h:Heap)(H:Hp):Heap:=PySem.W.hideAll h (yC h H)
theorem ZZ8(h:Heap)(H:Hp):(UG h H).objs.size=h.objs.size:=PySem.W.hideAll_size _ _
theorem Zah{b:Addr}{o:Obj}(e:h.get? b=some o)(n:H b=none):(UG h H).get? b=some o:=
 PySem.W.hideAll_get _ e λhm=>by have q:(H b).isSome=true:=(Yh.mp hm).2;rw[n]at q;simp at q
theorem Zai{b:Addr}{o:Obj}(e:(UG h H).get? b=some o):h.get? b=some o/\H b=none:=by
 have e':h.get? b=some o:=PySem.W.of_hideAll (yC h H) e;refine⟨e',?_⟩;cases q:H b with
 |none=>rfl
 |some x=>
  have hm:b∈yC h H:=Yh.mpr ⟨YK.mpr<|Yq e',by simp[q]⟩;have z:(UG h H).get? b=none:=PySem.W.hideAll_none (yC h H) hm
  rw[z]at e;cases e
def Zaj(g h:Heap)(L:Addr):List (Addr×Obj):=(List.range h.objs.size).filterMap λa=>if a=L\/(g.get? a).isSome=true then none else (h.get? a).map λo=>(a,o)
def rest(g h:Heap)(L d:Addr):List (Addr×Obj):=(Zaj g h L).filter λp=>decide (p.1≠d)
structure Mod(K:Ad)(mg:Af)(base:Heap):Prop where
 kin:K.In base
 glob:base.Ns mainGlobals mg
 blt:∃mb,base.Ns builtinsNs mb/\∀x:Str,x≠"__name__"->mb x=bootBuiltins x
 nolimit:base.NoLimit
structure Cx where
 prog:Program
 w:World
 K:Ad
 mg:Af
 base:Heap
 A:Around
 N:List Str
 s₀:Shared
 H₀:Hp
 env:Env
 outer:List Env
 stack:List Env
 ex:List Addr
 fn:Str->Bool
 calm:Bool
 pn:List (Addr×Obj)
 xe:Ae
def TB(l:List Env):List Addr:=l.filterMap (·.frame)
abbrev Cx.fs(X:Cx):List Addr:=TB X.outer
def yB(sc:Scope)(x:Str):Prop:=sc.names.lookup x=some .local\/sc.names.lookup x=some .cell\/sc.names.lookup x=some .free
def Loc(sc:Scope)(x:Str):Prop:=sc.names.lookup x=some .local\/sc.names.lookup x=some .cell
def Look(env:Env)(h:Heap)(m:Af)(x:Str)(u:Value):Prop:=
 (env.kindOf x=some .local/\m x=some u)\/((env.kindOf x=some .cell\/env.kindOf x=some .free)/\∃c,env.cells.lookup x=some c/\h.IsCell c (some u))
structure Cx.Ok(X:Cx):Prop where
 mod:Mod X.K X.mg X.base
 kind:X.env.scope.kind=.function
 glob:X.env.globals=mainGlobals
 blt:X.env.builtins=builtinsNs
 above:X.s₀.heap.objs.size<=X.env.locals
 inj:∀x y c,X.env.cells.lookup x=some c->X.env.cells.lookup y=some c->x=y
 has:∀x,(X.env.kindOf x=some .cell\/X.env.kindOf x=some .free)->∃c,X.env.cells.lookup x=some c
 cab:∀x c,X.fn x=true->X.env.cells.lookup x=some c->X.s₀.heap.objs.size<=c
 hd:X.calm=true->X.A.handled=none
 frames:X.A.frames=some X.stack
 stk:X.stack=X.outer\/(X.stack=X.env::X.outer/\X.env.frame=some X.env.locals)
 exf:∀b∈X.ex,b≠X.env.locals/\∀x c,X.env.cells.lookup x=some c->c≠b
 bs:∀b o,X.base.get? b=some o->X.s₀.heap.get? b=some o/\X.H₀ b=none
 bsz:X.base.objs.size<=X.s₀.heap.objs.size
 noex:∀b o,X.base.get? b=some o->b∉X.ex
 exfs:∀b∈X.ex,b∉X.fs
 funs:X.s₀.heap.FunFrames X.base X.outer
 frf:∀b∈X.fs,X.H₀ b=none
structure Inv(X:Cx)(pins:List (Addr×Obj))(σ:List (Option V))(H:Hp)(s:Shared):Prop where
 ok:X.Ok
 os:s.os=X.s₀.os
 bare:AllBare s.gens
 base:Un X.fs X.ex X.H₀ H X.s₀.heap s.heap
 loc:∃m,s.heap.Ns X.env.locals m/\∀(i:Nat)(x:Str)(v:V),X.N[i]?=some x->σ[i]?=some (some v)->yB X.env.scope x->∃u,RelV v u/\Look X.env s.heap m x u
 cell:∀x c,X.env.cells.lookup x=some c->∃v,s.heap.IsCell c v
 free:H X.env.locals=none
 freeC:∀x c,X.env.cells.lookup x=some c->H c=none
 pin:∀p∈X.pn++pins,s.heap.get? p.1=some p.2/\H p.1=none/\p.1≠X.env.locals/\p.1∉X.fs/\∀v,p.2.data≠.cell v
 hok:HOk X.prog X.w H s.heap
 len:σ.length=X.N.length
section
variable{X:Cx}{pins:List (Addr×Obj)}{σ:List (Option V)}{H H':Hp}{s:Shared}{h':Heap}
theorem Cx.Ok.nofr(ok:X.Ok){b:Addr}{o:Obj}(e:X.base.get? b=some o):b∉X.fs:=λhb=>by
 have:=(ok.funs.mem hb).1
 rw[e]at this;cases this
theorem Inv.bs(I:Inv X pins σ H s):∀b o,X.base.get? b=some o->s.heap.get? b=some o/\H b=none:=λb o e=>
 ⟨I.base.keep b o (I.ok.bs b o e).1 (I.ok.bs b o e).2 (I.ok.nofr e) (I.ok.noex b o e),I.base.free b o (I.ok.bs b o e).1 (I.ok.bs b o e).2 (I.ok.noex b o e)⟩
theorem Inv.bk(I:Inv X pins σ H s):∀b o,X.base.get? b=some o->s.heap.get? b=some o:=λb o e=>(I.bs b o e).1
theorem Inv.mod(I:Inv X pins σ H s):Mod X.K X.mg X.base:=I.ok.mod
theorem Inv.kIn(I:Inv X pins σ H s):X.K.In s.heap:=I.ok.mod.kin.keeps I.bk
theorem Inv.lt(I:Inv X pins σ H s):X.env.locals<s.heap.objs.size:=by obtain⟨_,hn,_⟩:=I.loc;exact hn.lt
theorem Inv.sz(I:Inv X pins σ H s):X.s₀.heap.objs.size<=s.heap.objs.size:=Yv I.ok.above (Nb I.lt)
theorem Inv.nofs(I:Inv X pins σ H s){a:Addr}(h:s.heap.objs.size<=a):a∉X.fs:=λhb=>by obtain⟨_,o,ho,_⟩:=I.ok.funs.mem hb;exact absurd (Yw (Yq ho)<|Yv I.sz h) (Sw _)
theorem Inv.cne(I:Inv X pins σ H s):∀x c,X.env.cells.lookup x=some c->c≠X.env.locals:=λx c e z=>by obtain⟨v,o,ho,hd⟩:=I.cell x c e;obtain⟨m,⟨o',es,ep,Vj,Gw,_⟩,_⟩:=I.loc;rw[z,Vj]at ho;cases ho;rw[Gw]at hd;cases hd
theorem Inv.funs(I:Inv X pins σ H s):s.heap.FunFrames X.base X.outer:=by
 have all:∀(l:List Env),(∀b∈TB l,b∈X.fs)->X.s₀.heap.FunFrames X.base l->s.heap.FunFrames X.base l:=by
  intro l
  induction l with
  |nil=>intro _ _;trivial
  |cons env r ih=>
   intro hs hl;obtain⟨hk,⟨L,o,hf,hn,ho,hd⟩,hr⟩:=hl;have hL:L∈X.fs:=hs L (by unfold TB;rw[y6,hf];exact Xd)
   obtain⟨sl,e⟩:=I.base.slot L o ho (I.ok.frf L hL) hL λz=>I.ok.exfs L z hL;exact⟨hk,⟨L,_,hf,hn,e,hd⟩,ih (λb hb=>hs b<|by unfold TB;rw[y6,hf];exact Yf _ hb) hr⟩
 exact all X.outer (λ_ hb=>hb) I.ok.funs
theorem Inv.stack(I:Inv X pins σ H s):s.heap.FunFrames X.base X.stack:=by
 rcases I.ok.stk with e|⟨e,hf⟩
 .rw[e];exact I.funs
 .rw[e];obtain⟨m,hn,_⟩:=I.loc;refine .cons (by rw[I.ok.kind];decide) hf hn ?_ I.funs;exact Heap.get?_none_of_le (Yv I.ok.bsz I.ok.above)
theorem Inv.stkSub(I:Inv X pins σ H s):∀b∈TB X.stack,b∈X.env.locals::X.fs:=λb hb=>by
 rcases I.ok.stk with e|⟨e,hf⟩
 .rw[e]at hb;exact Yf _ hb
 .rw[e]at hb;unfold TB at hb;rwa[y6,hf]at hb
theorem Inv.stkFree(I:Inv X pins σ H s):∀b∈TB X.stack,H b=none:=λb hb=>by
 rcases Yg.mp (I.stkSub b hb) with e|hb
 .rw[e];exact I.free
 .obtain⟨_,o,ho,_⟩:=I.ok.funs.mem hb;exact I.base.free b o ho (I.ok.frf b hb) λz=>I.ok.exfs b z hb
theorem Inv.step{g':Array GenState}{t':Nat}{d':Drawn}{ch:List Addr}(I:Inv X pins σ H s)
  (NK:∀b∈ch,(b∈X.ex\/X.s₀.heap.objs.size<=b)/\b≠X.env.locals/\(∀x c,X.env.cells.lookup x=some c->c≠b)/\∀p∈X.pn++pins,p.1≠b)
  (keep:∀b o,b≠X.env.locals->b∉X.fs->b∉ch->s.heap.get? b=some o->H b=none->h'.get? b=some o)
  (slot:∀b o,b≠X.env.locals->b∈X.fs->b∉ch->s.heap.get? b=some o->H b=none->∃sl,h'.get? b=some {o with slots:=sl})(free:∀b o,b∉ch->s.heap.get? b=some o->H b=none->H' b=none)
  (there:∀b o,b∉ch->s.heap.get? b=some o->∃o',h'.get? b=some o')
  (tups:∀b xs,H b=some (.tup xs)->H' b=some (.tup xs))(frzs:∀b o u,H b=some (.frz o u)->H' b=some (.frz o u))(tbls:∀b ps,H b=some (.tbl ps)->∃more,H' b=some (.tbl<|ps++more))
  (ns:∀m,s.heap.Ns X.env.locals m->h'.Ns X.env.locals m)(hok:HOk X.prog X.w H' h')(hg:AllBare g'):
  Inv X pins σ H' {s with heap:=h',gens:=g',drawn:=d',toks:=t'}:=by
 have fP:∀b o,X.s₀.heap.get? b=some o->b≠X.env.locals:=λb o e=>YB (Yw (Yq e) I.ok.above);have yA:∀b o,X.s₀.heap.get? b=some o->b∉X.ex->b∉ch:=λb o e hx hb=>by
  rcases(NK b hb).1 with z|z
  .exact hx z
  .exact absurd (Yw (Yq e) z) (Sw _)
 have cellK:∀x c,X.env.cells.lookup x=some c->∀v,s.heap.IsCell c v->h'.IsCell c v:=λx c e v ⟨o,ho,hd⟩=>by
  have EA:c∉ch:=λz=>(NK c z).2.2.1 x c e rfl;by_cases hc:c∈X.fs
  .obtain⟨sl,q⟩:=slot c o (I.cne x c e) hc EA ho (I.freeC x c e);exact⟨_,q,hd⟩
  .exact⟨o,keep c o (I.cne x c e) hc EA ho<|I.freeC x c e,hd⟩
 refine⟨I.ok,I.os,hg,⟨λb o e n hb hx=>?_,λb o e n hb hx=>?_,λb o e n hx=>?_,λb o e hx=>?_,λb xs e=>tups b xs<|I.base.tups b xs e,λb o xs e=>frzs b o xs<|I.base.frzs b o xs e,λb ps e=>?_⟩,?_,λx c e=>?_,?_,λx c e=>?_,λp hp=>?_,hok,I.len⟩
 .exact keep b o (fP b o e) hb (yA b o e hx) (I.base.keep b o e n hb hx) (I.base.free b o e n hx)
 .obtain⟨sl,e1⟩:=I.base.slot b o e n hb hx;obtain⟨sl',e2⟩:=slot b _ (fP b o e) hb (yA b o e hx) e1 (I.base.free b o e n hx);exact⟨sl',e2⟩
 .obtain⟨o',e1⟩:=I.base.there b o e hx;exact free b o' (yA b o e hx) e1 (I.base.free b o e n hx)
 .obtain⟨o',e1⟩:=I.base.there b o e hx;exact there b o' (yA b o e hx) e1
 .obtain⟨m1,e1⟩:=I.base.tbls b ps e;obtain⟨m2,e2⟩:=tbls b _ e1;exact⟨m1++m2,by rw[e2,Array.append_assoc]⟩
 .obtain⟨m,hn,hl⟩:=I.loc;refine⟨m,ns m hn,λi x v e1 e2 e3=>?_⟩;obtain⟨u,r,l⟩:=hl i x v e1 e2 e3;refine⟨u,r,?_⟩;rcases l with l|⟨k,c,e,z⟩
  .exact .inl l
  .exact .inr ⟨k,c,e,cellK x c e _ z⟩
 .obtain⟨v,z⟩:=I.cell x c e;exact⟨v,cellK x c e v z⟩
 .obtain⟨m,⟨o,_,_,ho,_⟩,_⟩:=I.loc;exact free _ o (λz=>(NK _ z).2.1 Z) ho I.free
 .obtain⟨v,o,ho,hd⟩:=I.cell x c e;exact free c o (λz=>(NK c z).2.2.1 x c e Z) ho (I.freeC x c e)
 .obtain⟨e,n,ne,nf,d⟩:=I.pin p hp;have EA:p.1∉ch:=λz=>(NK p.1 z).2.2.2 p hp rfl
  exact⟨keep p.1 p.2 ne nf EA e n,free p.1 p.2 EA e n,ne,nf,d⟩
theorem Inv.un{t':Nat}(I:Inv X pins σ H s)(u:Un X.fs [] H H' s.heap h')(hok:HOk X.prog X.w H' h'):Inv X pins σ H' {s with heap:=h',toks:=t'}:=by
 obtain⟨m,⟨o,es,ep,ho,r⟩,_⟩:=id I.loc;obtain⟨sl,hL⟩:=u.any ho I.free S;exact I.step (g':=s.gens) (d':=s.drawn) (ch:=[]) (λ_ z=>nomatch z) (λb o _ hb _ e n=>u.keep b o e n hb S) (λb o _ hb _ e n=>u.slot b o e n hb S) (λb o _ e n=>u.free b o e n S) (λb o _ e=>u.there b o e S) u.tups u.frzs u.tbls (λm' hm=>by obtain⟨o',uu,ur,Vj,r'⟩:=hm;rw[ho]at Vj;cases Vj;exact⟨_,uu,ur,hL,r'⟩) hok I.bare
theorem Inv.call{t':Nat}{d':Drawn}(I:Inv X pins σ H s)(u:Un (TB X.stack) ch H H' s.heap h')(hok:HOk X.prog X.w H' h')(hg:AllBare g')
  (NK:∀b∈ch,(b∈X.ex\/X.s₀.heap.objs.size<=b)/\b≠X.env.locals/\(∀x c,X.env.cells.lookup x=some c->c≠b)/\∀p∈X.pn++pins,p.1≠b):
  Inv X pins σ H' {s with heap:=h',gens:=g',drawn:=d',toks:=t'}:=by
 obtain⟨m,⟨o,es,ep,ho,r⟩,_⟩:=id I.loc;obtain⟨sl,hL⟩:=u.any ho I.free λz=>(NK _ z).2.1 rfl;exact I.step (ch:=ch) NK (λb o hL hb hc e n=>u.keep b o e n (λz=>(Yg.mp<|I.stkSub b z).elim hL hb) hc) (λb o _ _ hc e n=>u.any e n hc) (λb o hc e n=>u.free b o e n hc) (λb o hc e=>u.there b o e hc) u.tups u.frzs u.tbls (λm' hm=>by obtain⟨o',uu,ur,Vj,r'⟩:=hm;rw[ho]at Vj;cases Vj;exact⟨_,uu,ur,hL,r'⟩) hok hg
theorem Inv.turned{t':Nat}(I:Inv X pins σ H s)(k:∀b o,b≠it->s.heap.get? b=some o->h'.get? b=some o)(hn:H it=none)(hL:it≠X.env.locals)
  (h1:it∈X.ex\/X.s₀.heap.objs.size<=it)(h2:∀x c,X.env.cells.lookup x=some c->c≠it)(h3:∀p∈X.pn++pins,p.1≠it):Inv X pins σ H {s with heap:=h',toks:=t'}:=by
 have fO:∀b u,H b=some u->b≠it:=λb u e z=>by rw[z,hn]at e;cases e
 refine I.step (g':=s.gens) (d':=s.drawn) (ch:=[it]) (λb hb=>?_) (λb o _ _ hc e _=>k b o (λz=>hc<|by simp[z]) e) (λb o _ _ hc e _=>⟨o.slots,k b o (λz=>hc<|by simp[z]) e⟩) (λ_ _ _ _ n=>n)
  (λb o hc e=>⟨o,k b o (λz=>hc<|by simp[z]) e⟩) (λ_ _ e=>e) (λ_ _ _ e=>e) (λb ps e=>⟨#[],by rw[e];simp⟩) (λm hm=>?_) (λb u e=>?_) I.bare
 .have e:b=it:=by simpa using hb
  subst e;exact⟨h1,hL,h2,h3⟩
 .obtain⟨o,es,ep,ho,r⟩:=hm;exact⟨o,es,ep,k _ o (XI hL) ho,r⟩
 .refine(I.hok b u e).stay (λc v hc q=>k c v ?_ q) (λ_ q=>q) λ_ _ q=>q;rcases hc with z|z
  .rw[z];exact fO b u e
  .exact fO c _ z
theorem Inv.tok(I:Inv X pins σ H s)(t:Nat):Inv X pins σ H {s with toks:=t}:=I.un (h':=s.heap) (t':=t) Un.refl I.hok
theorem Inv.kept{t':Nat}(I:Inv X pins σ H s)(k:∀b u,s.heap.get? b=some u->h'.get? b=some u):Inv X pins σ H {s with heap:=h',toks:=t'}:=I.un (Un.kept k) (I.hok.kept k)
theorem Inv.laid{t':Nat}(I:Inv X pins σ H s)(k:∀b u,s.heap.get? b=some u->h'.get? b=some u)(hp:s.heap.objs.size<=a)(new:ObjOk X.prog X.w (upd H a o) h' a o):
  Inv X pins σ (upd H a o) {s with heap:=h',toks:=t'}:=I.un (Un.laid k hp<|I.hok.fresh hp) (I.hok.laid k hp new)
theorem Inv.write{t':Nat}(I:Inv X pins σ H s)(mu:EC (H x))(he:e=x\/H e=some (.own x))(k:∀b u,b≠e->s.heap.get? b=some u->h'.get? b=some u)(Gx:∃u,h'.get? e=some u)
  (new:ObjOk X.prog X.w (upd H x o) h' x o):Inv X pins σ (upd H x o) {s with heap:=h',toks:=t'}:=I.un (Un.write mu he k Gx) (I.hok.write mu he k Gx new)
theorem Inv.weak(I:Inv X pins σ H s)(hl:σ'.length=σ.length)(w:∀(i:Nat) v,σ'[i]?=some (some v)->σ[i]?=some (some v)):Inv X pins σ' H s:=
 ⟨I.ok,I.os,I.bare,I.base,by obtain⟨m,hn,Rc⟩:=I.loc;exact⟨m,hn,λi x v e1 e2 e3=>Rc i x v e1 (w i v e2) e3⟩,I.cell,I.free,I.freeC,I.pin,I.hok,hl.trans I.len⟩
theorem Inv.pins_of(I:Inv X pins σ H s)(h:∀p∈pins',s.heap.get? p.1=some p.2/\H p.1=none/\p.1≠X.env.locals/\p.1∉X.fs/\∀v,p.2.data≠.cell v):Inv X pins' σ H s:=
 ⟨I.ok,I.os,I.bare,I.base,I.loc,I.cell,I.free,I.freeC,λp hp=>(XE.mp hp).elim (λz=>I.pin p<|Yd _ z) (h p),I.hok,I.len⟩
theorem Ez{N:List Str}(hN:N.Nodup){i j:Nat}{x:Str}(a:N[i]?=some x)(b:N[j]?=some x):i=j:=by obtain⟨h1,e1⟩:=Xr.mp a;obtain⟨h2,e2⟩:=Xr.mp b;exact(List.getElem_inj hN).mp (e1.trans e2.symm)
theorem Zj8{E:Ae}{i:Nat}{x:Str}{Q:Unit->Shared->Prop}(I:Inv X pins σ H s)(hN:X.N.Nodup)(hi:X.N[i]?=some x)(hx:Loc X.env.scope x)(r:RelV v u)
  (h:∀s',Inv X pins (σ.set i<|some v) H s'->(∃a,Heap.SameBut a s.heap s'.heap/\(a=X.env.locals\/X.env.cells.lookup x=some a))->Q () s')(hf:X.fn x=true\/X.env.scope.names.lookup x=some .local:=by first|exact .inl rfl|exact .inr rfl|assumption):wpAny M A (storeName X.env x u) Q E s:=by
 obtain⟨m,hn,hl⟩:=id I.loc;have uq:(X.env.scope.kind == .class||(X.env.scope.kind == .module&&X.env.locals != X.env.globals))=false:=by rw[I.ok.kind];rfl
 have Ey:i<σ.length:=by rw[I.len];exact(Xr.mp hi).1
 have cne:=I.cne;have tracked:∀{a:Addr}{h':Heap},(∃o,s.heap.get? a=some o/\H a=none)->Heap.SameBut a s.heap h'->HOk X.prog X.w H h':=λ{a h'} ha hs b ob e=>by
  obtain⟨_,_,Lv⟩:=ha;refine(I.hok b ob e).stay (λc w' hc q=>(hs.2 c ?_).trans q) (λ_ q=>q) λ_ _ q=>q;rintro rfl;rcases hc with rfl|hc
  .rw[Lv]at e;cases e
  .rw[Lv]at hc;cases hc
 rcases hx with hk|hk
 .refine wpAny_storeName_local hk hn (λh' Rb hs=>?_) uq;obtain⟨oL,_,_,JB,_⟩:=id hn;refine h _ ⟨I.ok,I.os,I.bare,⟨λb o e n hb hx=>?_,λb o e n hb hx=>?_,I.base.free,λb o e hx=>?_,I.base.tups,I.base.frzs,I.base.tbls⟩,⟨_,Rb,λj y v' e1 e2 e3=>?_⟩,λy c e=>?_,I.free,I.freeC,λp hp=>?_,tracked ⟨oL,JB,I.free⟩ hs,by simpa using I.len⟩ ⟨_,hs,.inl Z⟩
  .exact(hs.2 b<|YB<|Yw (Yq e) I.ok.above).trans (I.base.keep b o e n hb hx)
  .obtain⟨sl,e1⟩:=I.base.slot b o e n hb hx;exact⟨sl,(hs.2 b<|YB<|Yw (Yq e) I.ok.above).trans e1⟩
  .obtain⟨o',e1⟩:=I.base.there b o e hx;exact⟨o',(hs.2 b<|YB<|Yw (Yq e) I.ok.above).trans e1⟩
  .by_cases hj:j=i
   .subst hj;rw[hi]at e1;cases e1;rw[f9 Ey]at e2;cases e2;exact⟨u,r,.inl ⟨hk,S⟩⟩
   .rw[List.getElem?_set_ne (XI hj)]at e2;obtain⟨u',r',q⟩:=hl j y v' e1 e2 e3;refine⟨u',r',?_⟩;rcases q with ⟨k,e⟩|⟨k,c,e,z⟩
    .refine .inl ⟨k,?_⟩
     have:y≠x:=λe=>hj (Ez hN e1<|e▸hi)
     simp[this,e]
    .exact .inr ⟨k,c,e,z.sameBut hs<|cne y c e⟩
  .obtain⟨w',z⟩:=I.cell y c e;exact⟨w',z.sameBut hs<|cne y c e⟩
  .obtain⟨e,n,ne,nf,d⟩:=I.pin p hp;exact⟨(hs.2 p.1 ne).trans e,n,ne,nf,d⟩
 .have Gv:X.fn x=true:=by
   rcases hf with z|z
   .exact z
   .rw[z]at hk;cases hk
  obtain⟨c,hc⟩:=I.ok.has x (.inl hk);obtain⟨w',z⟩:=I.cell x c hc;refine wpAny_storeName_cell I.ok.kind hk hc z λh' WI hs=>?_;obtain⟨oc,yy,uo⟩:=id z;refine h {s with heap:=h'} ⟨I.ok,I.os,I.bare,⟨λb o e n hb hx=>?_,λb o e n hb hx=>?_,I.base.free,λb o e hx=>?_,I.base.tups,I.base.frzs,I.base.tbls⟩,⟨m,hn.sameBut hs<|XI<|cne x c hc,λj y v' e1 e2 e3=>?_⟩,λy c' e=>?_,I.free,I.freeC,λp hp=>?_,tracked ⟨oc,yy,I.freeC x c hc⟩ hs,by simpa using I.len⟩ ⟨c,hs,.inr hc⟩
  .exact(hs.2 b<|YB<|Yw (Yq e)<|I.ok.cab x c Gv hc).trans (I.base.keep b o e n hb hx)
  .obtain⟨sl,e1⟩:=I.base.slot b o e n hb hx;exact⟨sl,(hs.2 b<|YB<|Yw (Yq e)<|I.ok.cab x c Gv hc).trans e1⟩
  .obtain⟨o',e1⟩:=I.base.there b o e hx;exact⟨o',(hs.2 b<|YB<|Yw (Yq e)<|I.ok.cab x c Gv hc).trans e1⟩
  .by_cases hj:j=i
   .subst hj;rw[hi]at e1;cases e1;rw[f9 Ey]at e2;cases e2;exact⟨u,r,.inr ⟨.inl hk,c,hc,WI⟩⟩
   .rw[List.getElem?_set_ne (XI hj)]at e2;obtain⟨u',r',q⟩:=hl j y v' e1 e2 e3;refine⟨u',r',?_⟩;rcases q with q|⟨k,c',e,z'⟩
    .exact .inl q
    .refine .inr ⟨k,c',e,z'.sameBut hs ?_⟩;rintro rfl;exact hj (Ez hN e1<|I.ok.inj _ _ _ e hc▸hi)
  .by_cases um:c'=c
   .subst um;exact⟨_,WI⟩
   .obtain⟨w2,z2⟩:=I.cell y c' e;exact⟨w2,z2.sameBut hs um⟩
  .obtain⟨e,n,ne,nf,d⟩:=I.pin p hp;refine⟨(hs.2 p.1 ?_).trans e,n,ne,nf,d⟩;intro q;rw[q,yy]at e;have q':oc=p.2:=Ye e
   exact d w' (by rwa[<-q'])
theorem yx{E:Ae}{i:Nat}{x:Str}{Q:Unit->Shared->Prop}(I:Inv X pins σ H s)(hN:X.N.Nodup)(hi:X.N[i]?=some x)(hx:Loc X.env.scope x)(r:RelV v u)
  (h:∀s',Inv X pins (σ.set i<|some v) H s'->Q () s')(hf:X.fn x=true\/X.env.scope.names.lookup x=some .local:=by first|exact .inl rfl|exact .inr rfl|assumption):wpAny M A (storeName X.env x u) Q E s:=
 Zj8 I hN hi hx r (λs' I' _=>h s' I') hf
theorem Inv.call'(I:Inv X pins σ H s)(ho:s'.os=s.os)(u:Un (TB X.stack) ch H H' s.heap s'.heap)(hok:HOk X.prog X.w H' s'.heap)(hg:AllBare s'.gens)
  (NK:∀b∈ch,(b∈X.ex\/X.s₀.heap.objs.size<=b)/\b≠X.env.locals/\(∀x c,X.env.cells.lookup x=some c->c≠b)/\∀p∈X.pn++pins,p.1≠b):Inv X pins σ H' s':=by
 obtain⟨h',g',d',t',o'⟩:=s';have e:o'=s.os:=ho
 subst e;exact I.call (g':=g') (t':=t') (d':=d') u hok hg NK
end
abbrev XK:=Value->Option Addr->Hp->Prop
abbrev St:=List (Option V)
abbrev VK:=V->Hp->Prop
abbrev TE:=St->Hp->VK->Prop
abbrev TT:=St->Hp->(Bool->Hp->Prop)->Prop
abbrev TA:=St->Hp->(List V->Hp->Prop)->Prop
structure Ends where
 nx:St->Hp->Prop
 rt:VK
 bk:St->Hp->Prop:=λ_ _=>False
 ct:St->Hp->Prop:=λ_ _=>False
abbrev TS:=Ends->St->Hp->Prop
def EP(X:Cx)(pins:List (Addr×Obj))(σ:St)(Q:VK)(u:Value)(s':Shared):Prop:=∃v H',Inv X pins σ H' s'/\RelV v u/\Q v H'
def TP(X:Cx)(pins:List (Addr×Obj))(σ:St)(Q:Bool->Hp->Prop)(b:Bool)(s':Shared):Prop:=∃H',Inv X pins σ H' s'/\Q b H'
def Zak(X:Cx)(pins:List (Addr×Obj))(σ:St)(Q:List V->Hp->Prop)(us:Ag)(s':Shared):Prop:=∃vs H',Inv X pins σ H' s'/\Vals vs us/\Q vs H'
def SP(X:Cx)(pins:List (Addr×Obj))(D:Ends)(f:Flow)(s':Shared):Prop:=
 match f with
 | .next=>∃σ' H',Inv X pins σ' H' s'/\D.nx σ' H'
 | .brk=>∃σ' H',Inv X pins σ' H' s'/\D.bk σ' H'
 | .cont=>∃σ' H',Inv X pins σ' H' s'/\D.ct σ' H'
 | .ret u=>∃v σ' H',Inv X pins σ' H' s'/\RelV v u/\D.rt v H'
def PE(X:Cx)(e:Expr)(t:TE):Prop:=
 ∀(pins:List (Addr×Obj))(s:Shared)(σ:St)(H:Hp)(Q:VK),Inv X pins σ H s->t σ H Q->wpAny (model X.prog X.w) X.A (eval e X.env) (EP X pins σ Q) X.xe s
def PT(X:Cx)(e:Expr)(t:TT):Prop:=
 ∀(pins:List (Addr×Obj))(s:Shared)(σ:St)(H:Hp)(Q:Bool->Hp->Prop),Inv X pins σ H s->t σ H Q->wpAny (model X.prog X.w) X.A (isTrue e X.env<|eval e X.env) (TP X pins σ Q) X.xe s
def PW(X:Cx)(e:Expr)(t:TT):Prop:=
 ∀(whole:Sem Value)(pins:List (Addr×Obj))(s:Shared)(σ:St)(H:Hp)(Q:Bool->Hp->Prop),Inv X pins σ H s->t σ H Q->wpAny (model X.prog X.w) X.A (isTrue e X.env whole) (TP X pins σ Q) X.xe s
theorem PW.pt(h:PW X e t):PT X e t:=h _
def PA(X:Cx)(es:List Expr)(t:TA):Prop:=
 ∀(pos:Pos)(pins:List (Addr×Obj))(s:Shared)(σ:St)(H:Hp)(Q:List V->Hp->Prop),Inv X pins σ H s->t σ H Q->wpAny (model X.prog X.w) X.A (spliced<|backTo pos<|starEach es X.env) (Zak X pins σ Q) X.xe s
def PS(X:Cx)(st:Stmt)(t:TS):Prop:=
 ∀(pins:List (Addr×Obj))(s:Shared)(σ:St)(H:Hp)(D:Ends),Inv X pins σ H s->t D σ H->wpAny (model X.prog X.w) X.A (exec st X.env) (SP X pins D) X.xe s
def PSs(X:Cx)(st:List Stmt)(t:TS):Prop:=
 ∀(pins:List (Addr×Obj))(s:Shared)(σ:St)(H:Hp)(D:Ends),Inv X pins σ H s->t D σ H->wpAny (model X.prog X.w) X.A (execs st X.env) (SP X pins D) X.xe s
theorem thn{α:Type}{t:Sem α}{Q Q':α->Shared->Prop}{M:Model}{A:Around}{E:Ae}{s:Shared}(h:wpAny M A t Q E s)(hQ:∀a s,Q a s->Q' a s):wpAny M A t Q' E s:=SK h hQ λ_ _ x=>x
section
variable{X:Cx}
inductive isB(x:V)(H:Hp)(Q:Bool->Hp->Prop):Prop
 |mk (k:Bool) (_:x=.bl k) (_:Q k H)
inductive tVar(i:Nat)(σ:St)(H:Hp)(Q:VK):Prop
 |mk (v:_) (_:σ[i]?=some (some v)) (_:Q v H)
def tC(v:V):TE:=λ_ H Q=>Q v H
theorem Zal{x:Str}{pos:Pos}(hN:X.N[i]?=some x)(hv:yB X.env.scope x)(hd:(x == ("__debug__":Str))=false:=by decide)(SJ:(x == ("__classdict__":Str))=false:=by decide):PE X (.Name x pos) (tVar i):=by
 intro pins s σ H Q I h;obtain⟨v,e,h⟩:=h;obtain⟨m,hn,hl⟩:=I.loc;obtain⟨u,r,l⟩:=hl i x v hN e hv;have fin:EP X pins σ Q u s:=⟨v,H,I,r,h⟩
 rcases l with ⟨hk,hm⟩|⟨hk,c,hc,Uq⟩
 .exact wpAny_Name (wpAny_loadName_local I.ok.kind hk hn hm fin) hd
 .rcases hk with hk|hk
  .exact wpAny_Name (wpAny_loadName_cell I.ok.kind hk hc Uq fin) hd
  .exact wpAny_Name (wpAny_loadName_free I.ok.kind hk hc Uq fin SJ) hd
theorem XO{i j pos}:PE X (.Constant (.int i) j pos) (tC (.int i)):=λ_ _ _ H _ I h=>wpAny_Constant_int ⟨.int i,H,I.tok _,⟨_,Z⟩,h⟩
theorem UE{b j pos}:PE X (.Constant (.bool b) j pos) (tC (.bl b)):=λ_ _ _ H _ I h=>Constant_bool ⟨.bl b,H,I,Z,h⟩
theorem Qp{j pos}:PE X (.Constant .none j pos) (tC .non):=λ_ _ _ H _ I h=>Constant_none ⟨.non,H,I,Z,h⟩
theorem PF{x j pos}:PE X (.Constant (.str x) j pos) (tC (.str x)):=λ_ _ _ H _ I h=>Calls.Constant_str ⟨.str x,H,I.tok _,⟨_,Z⟩,h⟩
def Gl(X:Cx)(x:Str):Prop:=X.env.kindOf x=some .globalImplicit
theorem ui{E:Ae}{u:Value}{pos:Pos}{Q:Ae}(I:Inv X pins σ H s)(hg:Gl X x)(hm:X.mg x=some u)(h:Q u s)
  (hd:(x == ("__debug__":Str))=false:=by decide):wpAny (model X.prog X.w) X.A (eval (.Name x pos) X.env) Q E s:=
 Calls.Name_function_global I.ok.kind hg (Calls.loadGlobal_global (by rw[I.ok.glob];exact I.mod.glob.keeps I.bk) hm h) hd
theorem Ra{E:Ae}{u:Value}{pos:Pos}{Q:Ae}(I:Inv X pins σ H s)(hg:Gl X x)(hm:X.mg x=none)(hv:bootBuiltins x=some u)(h:Q u s)
  (hn:x≠"__name__":=by decide)(hd:(x == ("__debug__":Str))=false:=by decide):wpAny (model X.prog X.w) X.A (eval (.Name x pos) X.env) Q E s:=by obtain⟨mb,h1,h2⟩:=I.mod.blt;exact Calls.Name_function_global I.ok.kind hg (Calls.loadGlobal_builtin (by rw[I.ok.glob];exact I.mod.glob.keeps I.bk) hm (by rw[I.ok.blt];exact h1.keeps I.bk) ((h2 x hn).trans hv) h) hd
theorem yw{u:Value}{pos:Pos}(hg:Gl X x)(hm:X.mg x=some u)(r:RelV v u)(hd:(x == ("__debug__":Str))=false:=by decide):PE X (.Name x pos) (tC v):=
 λ_ _ _ H _ I h=>ui I hg hm ⟨v,H,I,r,h⟩ hd
variable{a b:Expr}{ta tb:TE}{pos:Pos}
def PC(X:Cx)(op:CmpOp)(a b:Expr)(t:TE):Prop:=
 ∀(pins:List (Addr×Obj))(s:Shared)(σ:St)(H:Hp)(Q:VK),Inv X pins σ H s->t σ H Q->
  wpAny (model X.prog X.w) X.A (eval a X.env) (λv s₁=>wpAny (model X.prog X.w) X.A (eval b X.env) (λu s₂=>wpAny (model X.prog X.w) X.A (compareOp op v u) (EP X pins σ Q) X.xe s₂) X.xe s₁) X.xe s
def tB(t:TE):TT:=λσ H Q=>t σ H λx H1=>isB x H1 Q
theorem PD{e:Expr}{t:TE}(h:PE X e t)(he:∀whole,isTrue e X.env whole=(do let v <-whole;standAt e.pos;holding [v] (truthy v)):=by intro _;rfl):PT X e (tB t):=by intro pins s σ H Q I hw;refine isTrue_plain (thn (h pins s σ H _ I hw) λv s1 zz=>?_) (he _);obtain⟨x,H1,I1,r1,q1⟩:=zz;obtain⟨d,rfl,q⟩:=q1;cases r1;exact PK ⟨H1,I1,q⟩
variable{tA yt:TT}{rest:List Expr}
def uh(t u:TT):TT:=λσ H Q=>t σ H λc H1=>if c=true then u σ H1 Q else Q false H1
def tOr(t u:TT):TT:=λσ H Q=>t σ H λc H1=>if c=true then Q true H1 else u σ H1 Q
def ug(t:TT):TT:=λσ H Q=>t σ H λc H1=>Q (!c) H1
theorem Ex(ha:PT X a tA):PW X (.BoolOp .And [a] pos) tA:=by
 intro wh pins s σ H Q I h;refine isTrue_and (thn (ha pins s σ H Q I h) λc s1 e=>?_);cases c with
 |true=>exact isTrue_and_nil e
 |false=>exact e
theorem JA(ha:PT X a tA):PW X (.BoolOp .Or [a] pos) tA:=by
 intro wh pins s σ H Q I h;refine isTrue_or (thn (ha pins s σ H Q I h) λc s1 e=>?_);cases c with
 |false=>exact isTrue_or_nil e
 |true=>exact e
theorem Ew(ha:PT X a tA)(hb:PW X (.BoolOp .And (b::rest) pos) yt):PW X (.BoolOp .And (a::b::rest) pos) (uh tA yt):=by
 intro wh pins s σ H Q I h;refine isTrue_and (thn (ha pins s σ H _ I h) λc s1 Xv=>?_);obtain⟨H1,I1,q1⟩:=Xv;cases c with
 |true=>exact hb wh pins s1 σ H1 Q I1 q1
 |false=>exact⟨H1,I1,q1⟩
theorem Sq(ha:PT X a tA)(hb:PW X (.BoolOp .Or (b::rest) pos) yt):PW X (.BoolOp .Or (a::b::rest) pos) (tOr tA yt):=by
 intro wh pins s σ H Q I h;refine isTrue_or (thn (ha pins s σ H _ I h) λc s1 Xv=>?_);obtain⟨H1,I1,q1⟩:=Xv;cases c with
 |true=>exact⟨H1,I1,q1⟩
 |false=>exact hb wh pins s1 σ H1 Q I1 q1
theorem UD(ha:PT X a tA):PT X (.UnaryOp .Not a pos) (ug tA):=by intro pins s σ H Q I h;exact isTrue_not (ha pins s σ H (λc H1=>Q (!c) H1) I h)
def uf(ta tb:TE):TE:=λσ H Q=>ta σ H λx H1=>∃c,x=.bl c/\if c=true then tb σ H1 Q else Q (.bl false) H1
def ue(ta tb:TE):TE:=λσ H Q=>ta σ H λx H1=>∃c,x=.bl c/\if c=true then Q (.bl true) H1 else tb σ H1 Q
def ud(ta:TE):TE:=λσ H Q=>ta σ H λx H1=>∃c,x=.bl c/\Q (.bl<|!c) H1
theorem Jz{op}(h:PE X a t):PE X (.BoolOp op [a] pos) t:=λpins s σ H Q I hw=>BoolOp_one (h pins s σ H Q I hw)
theorem Eu(ha:PE X a ta)(hb:PE X (.BoolOp .And (b::rest) pos) tb):PE X (.BoolOp .And (a::b::rest) pos) (uf ta tb):=by
 intro pins s σ H Q I h;refine BoolOp_and (thn (ha pins s σ H _ I h) λv s1 Xv=>?_);obtain⟨x,H1,I1,r1,q1⟩:=Xv;obtain⟨c,rfl,q1⟩:=q1;cases r1;refine PK ?_;cases c with
 |true=>exact hb pins s1 σ H1 Q I1 q1
 |false=>exact⟨.bl false,H1,I1,Z,q1⟩
theorem Lu(ha:PE X a ta)(hb:PE X (.BoolOp .Or (b::rest) pos) tb):PE X (.BoolOp .Or (a::b::rest) pos) (ue ta tb):=by
 intro pins s σ H Q I h;refine BoolOp_or (thn (ha pins s σ H _ I h) λv s1 Xv=>?_);obtain⟨x,H1,I1,r1,q1⟩:=Xv;obtain⟨c,rfl,q1⟩:=q1;cases r1;refine PK ?_;cases c with
 |false=>exact hb pins s1 σ H1 Q I1 q1
 |true=>exact⟨.bl true,H1,I1,Z,q1⟩
theorem uc(ha:PE X a ta):PE X (.UnaryOp .Not a pos) (ud ta):=by intro pins s σ H Q I h;refine UnaryOp_ (thn (ha pins s σ H _ I h) λv s1 Xv=>?_);obtain⟨x,H1,I1,r1,q1⟩:=Xv;obtain⟨c,rfl,q1⟩:=q1;cases r1;exact not_of (PK ⟨.bl<|!c,H1,I1,Z,q1⟩)
def tIf(t:TT)(ta tb:TE):TE:=λσ H Q=>t σ H λc H1=>if c=true then ta σ H1 Q else tb σ H1 Q
theorem yr{c:Expr}(hc:PT X c tA)(ha:PE X a ta)(hb:PE X b tb):PE X (.IfExp c a b pos) (tIf tA ta tb):=by
 intro pins s σ H Q I h;refine wpAny_IfExp (thn (hc pins s σ H _ I h) λd s1 Xv=>?_);obtain⟨H1,I1,q1⟩:=Xv;cases d with
 |true=>exact ha pins s1 σ H1 Q I1 q1
 |false=>exact hb pins s1 σ H1 Q I1 q1
end
def SqL(K:Ad)(H:Hp)(a:Addr)(xs:List V):Prop:=
 Rd H a (.lst xs)\/
  ∃(o:Obj)(XT:Array Value)(n:Nat),K.lookup a=some o/\o.cls=.type "list"/\o.dict=none/\o.data=.seq XT n/\XT.size<=sizeLine/\Vals xs XT.toList
def SqT(K:Ad)(H:Hp)(a:Addr)(xs:List V):Prop:=
 Rd H a (.tup xs)\/
  ∃(o:Obj)(XT:Array Value)(n:Nat),K.lookup a=some o/\o.cls=.type "tuple"/\o.data=.seq XT n/\XT.size<=sizeLine/\Vals xs XT.toList
def t9:Value->Option V
 | .none=>some .non
 | .bool b=>some (.bl b)
 | .int i _=>some (.int i)
 | .str x _=>some (.str x)
 | .bytes b _=>some (.byt b)
 | .float b _=>some (.flt b)
 | .ref a=>some (.ref a)
 | .type n=>some (.ty n)
 |_=>none
theorem RelV.abs(r:RelV x u):t9 u=some x:=by
 cases x with
 |non=>cases r;rfl
 |bl _=>cases r;rfl
 |int _=>obtain⟨t,rfl⟩:=r;rfl
 |str _=>obtain⟨t,rfl⟩:=r;rfl
 |byt _=>obtain⟨t,rfl⟩:=r;rfl
 |flt _=>obtain⟨t,rfl⟩:=r;rfl
 |ref _=>cases r;rfl
 |ty _=>cases r;rfl
theorem RelV.inj(r:RelV x u)(q:RelV y u):x=y:=Ye (r.abs.symm.trans q.abs)
theorem Vals.inj{xs ys:List V}{us:Ag}(h:Vals xs us)(h':Vals ys us):xs=ys:=by
 induction h generalizing ys with
 |nil=>cases h';rfl
 |cons r t ih=>cases h' with
  |cons r' t'=>rw[r.inj r',ih t']
section
variable{X:Cx}{pins:List (Addr×Obj)}{σ:St}{H:Hp}{s:Shared}{a:Addr}{xs ys:List V}
theorem SqL.of{K:Ad}(h:H a=some (.lst xs)):SqL K H a xs:=.inl (.inl h)
theorem SqT.of{K:Ad}(h:H a=some (.tup xs)):SqT K H a xs:=.inl (.inl h)
theorem Inv.list(I:Inv X pins σ H s)(h:SqL X.K H a xs):∃XT:Ag,Vals xs XT/\PlainL s.heap a XT.toArray/\xs.length<=sizeLine:=by
 rcases h with h|⟨o,XT,n,hk,hc,hd,hs,hz,r⟩
 .obtain⟨z,XT,n,r,e⟩:=h.ok I.hok;exact⟨XT,r,⟨_,n,e,Z,Z,Z⟩,z⟩
 .refine⟨XT.toList,r,⟨o,n,I.kIn a o hk,hc,hd,by simpa using hs⟩,?_⟩;have e:=r.length
  simp only[YE]at e;lia
theorem Inv.tuple(I:Inv X pins σ H s)(h:SqT X.K H a xs):∃XT:Ag,Vals xs XT/\IsTup s.heap a XT.toArray/\xs.length<=sizeLine:=by
 rcases h with h|⟨o,XT,n,hk,hc,hs,hz,r⟩
 .obtain⟨z,XT,r,p⟩:=h.ok I.hok;exact⟨XT,r,p,z⟩
 .refine⟨XT.toList,r,⟨o,I.kIn a o hk,hc,n,by simpa using hs⟩,?_⟩;have e:=r.length
  simp only[YE]at e;omega
theorem Inv.list_inj(I:Inv X pins σ H s)(h:SqL X.K H a xs)(h':SqL X.K H a ys):xs=ys:=by
 obtain⟨XT,r,⟨o,n,e,_,_,d⟩,_⟩:=I.list h;obtain⟨its',r',⟨o',n',e',_,_,d'⟩,_⟩:=I.list h';rw[e]at e';cases e';rw[d]at d';injection d' with d1 _
 have:XT=its':=by simpa using Xy Array.toList d1
 subst this;exact r.inj r'
theorem Inv.tuple_inj(I:Inv X pins σ H s)(h:SqT X.K H a xs)(h':SqT X.K H a ys):xs=ys:=by
 obtain⟨XT,r,⟨o,e,_,n,d⟩,_⟩:=I.tuple h;obtain⟨its',r',⟨o',e',_,n',d'⟩,_⟩:=I.tuple h';rw[e]at e';cases e';rw[d]at d';injection d' with d1 _
 have:XT=its':=by simpa using Xy Array.toList d1
 subst this;exact r.inj r'
end
abbrev Cx.wish(X:Cx)(E:Ae):Cx:={X with xe:=E}
abbrev Cx.nox(X:Cx):Cx:=X.wish λ_ _=>False
theorem Cx.Ok.wish{X:Cx}(ok:X.Ok)(E:Ae):(X.wish E).Ok:=
 ⟨ok.mod,ok.kind,ok.glob,ok.blt,ok.above,ok.inj,ok.has,ok.cab,ok.hd,ok.frames,ok.stk,ok.exf,ok.bs,ok.bsz,ok.noex,ok.exfs,ok.funs,ok.frf⟩
theorem Cx.Ok.unwish{X:Cx}{E:Ae}(ok:(X.wish E).Ok):X.Ok:=
 ⟨ok.mod,ok.kind,ok.glob,ok.blt,ok.above,ok.inj,ok.has,ok.cab,ok.hd,ok.frames,ok.stk,ok.exf,ok.bs,ok.bsz,ok.noex,ok.exfs,ok.funs,ok.frf⟩
section
variable{X:Cx}{pins:List (Addr×Obj)}{σ:St}{H:Hp}{s:Shared}{E:Ae}
theorem Inv.wish(I:Inv X pins σ H s)(E:Ae):Inv (X.wish E) pins σ H s:=⟨I.ok.wish E,I.os,I.bare,I.base,I.loc,I.cell,I.free,I.freeC,I.pin,I.hok,I.len⟩
theorem Inv.unwish(I:Inv (X.wish E) pins σ H s):Inv X pins σ H s:=⟨I.ok.unwish,I.os,I.bare,I.base,I.loc,I.cell,I.free,I.freeC,I.pin,I.hok,I.len⟩
theorem SP.unwish(h:SP (X.wish E) pins D f s'):SP X pins D f s':=by
 cases f with
 |next=>obtain⟨σ',H',I,q⟩:=h;exact⟨σ',H',I.unwish,q⟩
 |brk=>obtain⟨σ',H',I,q⟩:=h;exact⟨σ',H',I.unwish,q⟩
 |cont=>obtain⟨σ',H',I,q⟩:=h;exact⟨σ',H',I.unwish,q⟩
 |ret u=>obtain⟨v,σ',H',I,r,q⟩:=h;exact⟨v,σ',H',I.unwish,r,q⟩
theorem PSs.nox{st:List Stmt}{t:TS}(h:PSs X.nox st t):PSs X st t:=λpins s σ H D I hw=>
 SK (h pins s σ H D (I.wish _) hw) (λ_ _ q=>q.unwish) λ_ _ z=>False.elim z
end
section
variable{X:Cx}{st:Stmt}{rest:List Stmt}{t u:TS}{e:Expr}{te:TE}{pos:Pos}
def t7:TS:=λD σ H=>D.nx σ H
def Vc(t u:TS):TS:=λD σ H=>t {D with nx:=u D} σ H
theorem Zm:PSs X [] t7:=λ_ _ σ H _ I h=>yL ⟨σ,H,I,h⟩
theorem XQ(h1:PS X st t)(h2:PSs X rest u):PSs X (st::rest) (Vc t u):=by
 intro pins s σ H D I h;refine wpAny_execs_cons (thn (h1 pins s σ H {D with nx:=u D} I h) λf s1 q=>?_);cases f with
 |next=>
  obtain⟨σ',H',I',q⟩:=q;exact h2 pins s1 σ' H' D I' q
 |ret v=>exact q
 |brk=>exact q
 |cont=>exact q
theorem XN(h1:PS X st t):PSs X [st] t:=by
 intro pins s σ H D I h;refine wpAny_execs_cons (thn (h1 pins s σ H D I h) λf s1 q=>?_);cases f with
 |next=>exact yL q
 |ret v=>exact q
 |brk=>exact q
 |cont=>exact q
theorem Inv.quiet(I:Inv X pins σ H s):interactive X.env=false:=by simp[interactive,I.ok.kind]
def Et(te:TE):TS:=λD σ H=>te σ H λ_ H1=>D.nx σ H1
theorem ZS(he:PE X e te)(hs:swapsWith e none pos.line X.env=pure false:=by rfl):PS X (.Expr e pos) (Et te):=by intro pins s σ H D I h;exact wpAny_Expr_any (thn (he pins s σ H _ I h) λv s1 zz=>by obtain⟨x,H1,I1,r1,q1⟩:=zz;exact⟨σ,H1,I1,q1⟩) I.quiet hs
def Es(te:TE):TS:=λD σ H=>te σ H D.rt
theorem Zi(he:PE X e te):PS X (.Return (some e) pos) (Es te):=by intro pins s σ H D I h;exact wpAny_Return_some (thn (he pins s σ H _ I h) λv s1 zz=>by obtain⟨x,H1,I1,r1,q1⟩:=zz;exact⟨x,σ,H1,I1,r1,q1⟩)
def t6(c:TT)(t u:TS):TS:=λD σ H=>c σ H λb H1=>if b=true then t D σ H1 else u D σ H1
theorem Xx{c:Expr}{a b:List Stmt}{tc:TT}(hc:PT X c tc)(ha:PSs X a t)(hb:PSs X b u):PS X (.If c a b pos) (t6 tc t u):=by
 intro pins s σ H D I h;refine wpAny_If (thn (hc pins s σ H _ I h) λd s1 Xv=>?_);obtain⟨H1,I1,q1⟩:=Xv;cases d with
 |true=>exact ha pins s1 σ H1 D I1 q1
 |false=>exact hb pins s1 σ H1 D I1 q1
def Er:TS:=λ_ _ _=>False
theorem ZX:PS X st Er:=λ_ _ _ _ _ _ h=>h.elim
end
abbrev TG:=V->St->Hp->(St->Hp->Prop)->Prop
abbrev MV:=List V->St->Hp->(St->Hp->Prop)->Prop
def PG(X:Cx)(target:Expr)(t:TG):Prop:=
 ∀(pins:List (Addr×Obj))(s:Shared)(σ:St)(H:Hp)(v:V)(u:Value)(Q:St->Hp->Prop),Inv X pins σ H s->RelV v u->t v σ H Q->
  wpAny (model X.prog X.w) X.A (assign target X.env u) (λ_ s'=>∃σ' H',Inv X pins σ' H' s'/\Q σ' H') X.xe s
def Ep(X:Cx)(ts:List Expr)(t:MV):Prop:=
 ∀(pins:List (Addr×Obj))(s:Shared)(σ:St)(H:Hp)(vs:List V)(us:Ag)(Q:St->Hp->Prop),Inv X pins σ H s->Vals vs us->t vs σ H Q->
  wpAny (model X.prog X.w) X.A (assignInOrder ((assignEach ts X.env).map (·.2)) us) (λ_ s'=>∃σ' H',Inv X pins σ' H' s'/\Q σ' H') X.xe s
abbrev PB:=V->V->V->Hp->(Hp->Prop)->Prop
def Jy(X:Cx)(t:PB):Prop:=
 ∀(pins:List (Addr×Obj))(s:Shared)(σ:St)(H:Hp)(o i v:V)(ov iv u:Value)(Q:Hp->Prop),Inv X pins σ H s->RelV o ov->RelV i iv->RelV v u->t o i v H Q->
  wpAny (model X.prog X.w) X.A (setItem ov iv u) (λ_ s'=>∃H',Inv X pins σ H' s'/\Q H') X.xe s
abbrev Gu:=V->V->Hp->VK->Prop
def yq(X:Cx)(op:Operator)(t:Gu):Prop:=
 ∀(pins:List (Addr×Obj))(s:Shared)(σ:St)(H:Hp)(x y:V)(v u:Value)(Q:VK),Inv X pins σ H s->RelV x v->RelV y u->t x y H Q->
  wpAny (model X.prog X.w) X.A (inplaceOp op v u) (EP X pins σ Q) X.xe s
section
variable{X:Cx}{pos:Pos}
def Ls(i:Nat):TG:=λv σ H Q=>Q (σ.set i<|some v) H
theorem Ze{x:Str}(hN:X.N.Nodup)(hi:X.N[i]?=some x)(hx:Loc X.env.scope x)(hf:X.fn x=true\/X.env.scope.names.lookup x=some .local:=by first|exact .inl rfl|exact .inr rfl|assumption):PG X (.Name x pos) (Ls i):=by intro pins s σ H v u Q I r h;exact wpAny_assign_Name (yx I hN hi hx r (λs' I'=>⟨_,H,I',h⟩) hf)
def Eo:MV:=λvs σ H Q=>vs=[]/\Q σ H
def Lr(t:TG)(u:MV):MV:=λvs σ H Q=>∃v r,vs=v::r/\t v σ H λσ' H'=>u r σ' H' Q
theorem Qo:Ep X [] Eo:=by intro pins s σ H vs us Q I r h;obtain⟨e,h⟩:=h;subst e;cases r;exact assignInOrder_nil ⟨σ,H,I,h⟩
theorem Zw{e:Expr}{es:List Expr}{t:TG}{u:MV}(h1:PG X e t)(h2:Ep X es u)
  (hs:(assignEach (e::es) X.env).map (·.2)=assign e X.env::(assignEach es X.env).map (·.2):=by rfl):Ep X (e::es) (Lr t u):=by
 intro pins s σ H vs us Q I r h;obtain⟨v,vr,e1,h⟩:=h;subst e1;cases r with
 |cons r rr=>
  rw[hs];refine assignInOrder_cons (thn (h1 pins s σ H _ _ _ I r h) λ_ s1 Xv=>?_);obtain⟨σ1,H1,I1,q1⟩:=Xv;exact h2 pins s1 σ1 H1 _ _ Q I1 rr q1
def Jx(K:Ad)(n:Nat)(t:MV):TG:=λv σ H Q=>∃a xs,v=.ref a/\SqT K H a xs/\xs.length=n/\t xs σ H Q
theorem t5{k:Nat}(hc:X.calm=true)(h:Ep X es t)
  (hn:(assignEach es X.env).length=n:=by rfl)(Vb:(assignEach es X.env).findIdx? (·.1)=none:=by rfl):PG X (.Tuple es k pos) (Jx X.K n t):=by
 intro pins s σ H v u Q I r hw;obtain⟨a,xs,e1,hq,hl,hw⟩:=hw;subst e1;cases r;obtain⟨XT,rv,ht,hz⟩:=I.tuple hq;refine assign_Tuple_tuple (I.ok.hd hc) ht (by simp[hn,<-hl,rv.length]) Vb λh' hx=>?_;have I1:Inv X pins σ H {s with heap:=h'}:=I.kept (t':=s.toks) λb o e=>hx b o (YB<|Yq e) e
 exact h pins _ σ H xs _ Q I1 (by simpa using rv) hw
def t4(to ti:TE)(t:PB):TG:=λv σ H Q=>to σ H λo H1=>ti σ H1 λi H2=>t o i v H2 λH3=>Q σ H3
theorem Jw{o i:Expr}{to ti:TE}{t:PB}(ho:PE X o to)(hi:PE X i ti)(hs:Jy X t)
  (ha:∀v,assign (.Subscript o i pos) X.env v=(do
   let ov <-holding [v] (eval o X.env)
   let iv <-holding [v,ov] (eval i X.env)
   standAt pos
   holding [v,ov,iv] (setItem ov iv v)
   release [v,ov,iv] []):=by intro _;rfl):PG X (.Subscript o i pos) (t4 to ti t):=by intro pins s σ H v u Q I r h;rw[ha];refine XU (RN<|thn (ho pins s σ H _ I h) λov s1 Xv=>?_);obtain⟨x,H1,I1,r1,q1⟩:=Xv;refine XU (RN<|thn (hi pins s1 σ H1 _ I1 q1) λiv s2 Xv=>?_);obtain⟨y,H2,I2,r2,q2⟩:=Xv;refine XU (wpAny_standAt<|XU<|RN<|thn (hs pins s2 σ H2 x y v ov iv u _ I2 r1 r2 r q2) λ_ s3 Xv=>?_);obtain⟨H3,I3,q3⟩:=Xv;exact wpAny_release ⟨σ,H3,I3,q3⟩
def MU(te:TE)(g:TG):TS:=λD σ H=>te σ H λx H1=>g x σ H1 D.nx
theorem Jv{tg e:Expr}{te:TE}{g:TG}(he:PE X e te)(hg:PG X tg g)(hs:swapsWithSole [tg] e pos.line X.env=pure false:=by rfl)(hw:swappedStores [tg] e X.env=pure none:=by rfl)
  (h1:(assignEach [tg] X.env).map (·.2)=[assign tg X.env]:=by rfl):PS X (.Assign [tg] e pos) (MU te g):=by intro pins s σ H D I h;refine wpAny_Assign_stores (thn (he pins s σ H _ I h) λv s1 Xv=>?_) hs hw;obtain⟨x,H1,I1,r1,q1⟩:=Xv;rw[h1];exact thn (hg pins s1 σ H1 x v _ I1 r1 q1) λ_ s2 q=>q
theorem Zg{i:Nat}{x:Str}{e:Expr}{te:TE}{pos':Pos}(hN:X.N.Nodup)(hi:X.N[i]?=some x)(hx:Loc X.env.scope x)(he:PE X e te)(hs:swapsWith e (some (.Name x pos')) pos.line X.env=pure false:=by rfl)(hf:X.fn x=true\/X.env.scope.names.lookup x=some .local:=by first|exact .inl rfl|exact .inr rfl|assumption):
  PS X (.Assign [.Name x pos'] e pos) (MU te<|Ls i):=by intro pins s σ H D I h;refine wpAny_Assign_Name (thn (he pins s σ H _ I h) λv s1 Xv=>?_) hs;obtain⟨y,H1,I1,r1,q1⟩:=Xv;exact yx I1 hN hi hx r1 (λs2 I2=>⟨_,H1,I2,q1⟩) hf
def tZ(i:Nat)(te:TE)(ti:Gu):TS:=λD σ H=>∃x,σ[i]?=some (some x)/\te σ H λy H1=>ti x y H1 λz H2=>D.nx (σ.set i<|some z) H2
theorem tY{i:Nat}{x:Str}{e:Expr}{te:TE}{op:Operator}{ti:Gu}{pos':Pos}(hN:X.N.Nodup)(hi:X.N[i]?=some x)(hx:Loc X.env.scope x)(he:PE X e te)(ho:yq X op ti)(hf:X.fn x=true\/X.env.scope.names.lookup x=some .local:=by first|exact .inl rfl|exact .inr rfl|assumption):
  PS X (.AugAssign (.Name x pos') op e pos) (tZ i te ti):=by
 intro pins s σ H D I h;obtain⟨v,e1,h⟩:=h;obtain⟨m,hn,hl⟩:=I.loc;have vis:yB X.env.scope x:=by rcases hx with k|k;exact .inl k;exact .inr (.inl k)
 obtain⟨u,r,l⟩:=hl i x v hi e1 vis;refine wpAny_AugAssign_Name ?_;have go:wpAny (model X.prog X.w) X.A (eval e X.env) (λw s₂=>wpAny (model X.prog X.w) X.A (inplaceOp op u w) (λr s₃=>wpAny (model X.prog X.w) X.A (storeName X.env x r) (λ_=>SP X pins D .next) X.xe s₃) X.xe s₂) X.xe s:=by refine thn (he pins s σ H _ I h) λw s1 Xv=>?_;obtain⟨y,H1,I1,r1,q1⟩:=Xv;refine thn (ho pins s1 σ H1 v y u w _ I1 r r1 q1) λz s2 Xv=>?_;obtain⟨zv,H2,I2,r2,q2⟩:=Xv;exact yx I2 hN hi hx r2 (λs3 I3=>⟨_,H2,I3,q2⟩) hf
 rcases l with ⟨hk,hm⟩|⟨hk,c,hc,Uq⟩
 .exact wpAny_loadName_local I.ok.kind hk hn hm go
 .rcases hk with hk|hk
  .exact wpAny_loadName_cell I.ok.kind hk hc Uq go
  .rcases hx with k|k
   .have:X.env.scope.names.lookup x=some .free:=hk
    rw[k]at this;cases this
   .have:X.env.scope.names.lookup x=some .free:=hk
    rw[k]at this;cases this
def tX(to ti te:TE)(tget:V->V->Hp->VK->Prop)(yp:Gu)(tset:PB):TS:=λD σ H=>to σ H λo H1=>ti σ H1 λi H2=>tget o i H2 λx H3=>te σ H3 λy H4=>yp x y H4 λz H5=>tset o i z H5 λH6=>D.nx σ H6
def En(X:Cx)(t:V->V->Hp->VK->Prop):Prop:=
 ∀(pins:List (Addr×Obj))(s:Shared)(σ:St)(H:Hp)(o i:V)(ov iv:Value)(Q:VK),Inv X pins σ H s->RelV o ov->RelV i iv->t o i H Q->
  wpAny (model X.prog X.w) X.A (getItem ov iv) (EP X pins σ Q) X.xe s
theorem yn{o i e:Expr}{to ti te:TE}{tget:V->V->Hp->VK->Prop}{yp:Gu}{tset:PB}{op:Operator}{So:Pos}(ho:PE X o to)(hi:PE X i ti)(hg:En X tget)(he:PE X e te)(hp:yq X op yp)(hs:Jy X tset)
  (ha:∀ov iv new,augStore i ov iv new=(do holding [new,ov,iv] (setItem ov iv new);release [new,ov,iv] [];pure .next):=by intros;rfl):PS X (.AugAssign (.Subscript o i So) op e pos) (tX to ti te tget yp tset):=by intro pins s σ H D I h;refine wpAny_AugAssign_SubscriptAny (thn (ho pins s σ H _ I h) λov s1 Xv=>?_) ha;obtain⟨x1,H1,I1,r1,q1⟩:=Xv;refine thn (hi pins s1 σ H1 _ I1 q1) λiv s2 Xv=>?_;obtain⟨x2,H2,I2,r2,q2⟩:=Xv;refine thn (hg pins s2 σ H2 x1 x2 ov iv _ I2 r1 r2 q2) λold s3 Xv=>?_;obtain⟨x3,H3,I3,r3,q3⟩:=Xv;refine thn (he pins s3 σ H3 _ I3 q3) λv s4 Xv=>?_;obtain⟨x4,H4,I4,r4,q4⟩:=Xv;refine thn (hp pins s4 σ H4 x3 x4 old v _ I4 r3 r4 q4) λnew s5 Xv=>?_;obtain⟨x5,H5,I5,r5,q5⟩:=Xv;exact thn (hs pins s5 σ H5 x1 x2 x5 ov iv new _ I5 r1 r2 r5 q5) λ_ s6 zz=>by obtain⟨H6,I6,q6⟩:=zz;exact⟨σ,H6,I6,q6⟩
def fN(f:Int->Int->Int):Gu:=λx y H Q=>∃i j,x=.int i/\y=.int j/\Q (.int<|f i j) H
theorem Em:yq X .Add (fN λi j=>i+j):=by intro pins s σ H x y v u Q I r1 r2 h;obtain⟨i,j,e1,e2,q⟩:=h;subst e1;subst e2;obtain⟨t,rfl⟩:=r1;obtain⟨t',rfl⟩:=r2;exact iadd_int ⟨.int _,H,I.tok _,⟨_,Z⟩,q⟩
theorem Ju:yq X .Sub (fN λi j=>i-j):=by intro pins s σ H x y v u Q I r1 r2 h;obtain⟨i,j,e1,e2,q⟩:=h;subst e1;subst e2;obtain⟨t,rfl⟩:=r1;obtain⟨t',rfl⟩:=r2;exact isub_int ⟨.int _,H,I.tok _,⟨_,Z⟩,q⟩
def El(c:TT)(tb:TS):TS:=λD σ H=>∃W:Nat->St->Hp->Prop,(∃m,W m σ H)/\∀m σ H,W m σ H->
 c σ H λb H1=>if b=true then ∃N:St->Hp->Prop,(∀σ' H',N σ' H'->∃m',m'<m/\W m' σ' H')/\tb {D with nx:=N,ct:=N,bk:=D.nx} σ H1 else D.nx σ H1
theorem tW{c:Expr}{body:List Stmt}{tc:TT}{tb:TS}(hp:PassesOwn (model X.prog X.w) X.A X.env X.xe)(hc:PT X c tc)(hb:PSs X body tb):PS X (.While c body [] pos) (El tc tb):=by
 intro pins s σ H D I h;obtain⟨W,⟨m0,w0⟩,turn⟩:=h;refine wpAny_While (codeAny_whileLoop (λn s'=>∃σ' H',Inv X pins σ' H' s'/\W n σ' H') ?_ m0 ⟨σ,H,I,w0⟩);rintro n s1 ⟨σ1,H1,I1,w1⟩;refine JT hp (thn (hc pins s1 σ1 H1 _ I1<|turn n σ1 H1 w1) λb s2 Xv=>?_);obtain⟨H2,I2,q2⟩:=Xv;cases b with
 |true=>
  obtain⟨N,hN,q2⟩:=q2;rw[if_pos Z];refine JT hp (thn (hb pins s2 σ1 H2 _ I2 q2) λf s3 q3=>?_);cases f with
  |next=>
   obtain⟨σ3,H3,I3,n3⟩:=q3;obtain⟨m',hm,w3⟩:=hN σ3 H3 n3;exact⟨m',hm,σ3,H3,I3,w3⟩
  |cont=>
   obtain⟨σ3,H3,I3,n3⟩:=q3;obtain⟨m',hm,w3⟩:=hN σ3 H3 n3;exact⟨m',hm,σ3,H3,I3,w3⟩
  |brk=>exact q3
  |ret v=>exact q3
 |false=>
  rw[if_neg Yy];exact yL ⟨σ1,H2,I2,q2⟩
end
structure It where
 go:Nat->Hp->Prop
 yld:Nat->Hp->V->Hp->Prop
 stop:Nat->Hp->Prop
def FpOk(X:Cx)(pins:List (Addr×Obj))(H:Hp)(b:Addr):Prop:=
 H b=none/\b≠X.env.locals/\b∉X.fs/\(b∈X.ex\/X.s₀.heap.objs.size<=b)/\(∀x c,X.env.cells.lookup x=some c->c≠b)/\∀p∈X.pn++pins,p.1≠b
theorem Inv.fpOk{b:Addr}(I:Inv X pins σ H s)(hb:s.heap.objs.size<=b)(hn:H' b=none):FpOk X pins H' b:=by
 refine⟨hn,Rn<|Yw I.lt hb,I.nofs hb,.inr<|Yv I.sz hb,λx c e z=>?_,λp hp z=>?_⟩
 .obtain⟨v,q⟩:=I.cell x c e;exact absurd (Yw q.lt<|by rwa[z]) (Sw _)
 .exact absurd (Yw (Yq (I.pin p hp).1)<|by rwa[z]) (Sw _)
structure Turn(P:Program)(w:World)(K:Ad)(tg:Expr)(AP:It)(fp:List Addr)(it:Addr)(tn:Nat->Heap->Prop):Prop where
 mem:it∈fp
 obj:∀i h,tn i h->∀b∈fp,∃o,h.get? b=some o/\∀v,o.data≠.cell v
 keep:∀i h h',tn i h->(∀b∈fp,∀o,h.get? b=some o->h'.get? b=some o)->tn i h'
 item:∀(X:Cx),X.prog=P->X.w=w->X.K=K->X.calm=true->∀(i:Nat)(pins:List (Addr×Obj))(s:Shared)(σ:St)(H:Hp)(E:Ae),Inv X pins σ H s->(∀b∈fp,FpOk X pins H b)->tn i s.heap->AP.go i H->
  wpAny (model P w) X.A (pyNext<|.ref it) (λr s1=>∃u,r=some u/\
   wpAny (model P w) X.A (letOwnedTupleGo tg (.ref it) u) (λ_ s2=>∃x H',Inv X pins σ H' s2/\RelV x u/\AP.yld i H x H'/\tn (i+1) s2.heap/\∀b∈fp,H' b=none) E s1) E s
 done:∀(X:Cx),X.prog=P->X.w=w->X.K=K->X.calm=true->∀(i:Nat)(pins:List (Addr×Obj))(s:Shared)(σ:St)(H:Hp)(E:Ae),Inv X pins σ H s->(∀b∈fp,FpOk X pins H b)->tn i s.heap->AP.stop i H->
  wpAny (model P w) X.A (pyNext<|.ref it) (λr s1=>r=none/\Inv X pins σ H s1) E s
 self:∀(A:Around)(i:Nat)(s:Shared)(Q:Ae)(E:Ae),tn i s.heap->Q (.ref it) s->wpAny (model P w) A (pyIter<|.ref it) Q E s
abbrev TI:=St->Hp->(It->Hp->Prop)->Prop
def fM(X:Cx)(pins:List (Addr×Obj))(σ:St)(tg:Expr)(R:It->Hp->Prop)(tS:Value)(s2:Shared):Prop:=
 ∃(it:Addr)(fp:List Addr)(tn:Nat->Heap->Prop)(AP:It)(H':Hp),tS=.ref it/\Inv X pins σ H' s2/\Turn X.prog X.w X.K tg AP fp it tn/\tn 0 s2.heap/\(∀b∈fp,FpOk X pins H' b)/\R AP H'
def PI(X:Cx)(tg iter:Expr)(wi:TI):Prop:=
 ∀(pins:List (Addr×Obj))(s:Shared)(σ:St)(H:Hp)(R:It->Hp->Prop),Inv X pins σ H s->wi σ H R->
  wpAny (model X.prog X.w) X.A (eval iter X.env) (λv s1=>wpAny (model X.prog X.w) X.A (pyIter v) (fM X pins σ tg R) X.xe s1) X.xe s
theorem QZ{E:Ae}{s:Shared}{it:Addr}{o:Obj}{n:String}{vs:Array Value}{Q:Unit->Shared->Prop}(ho:s.heap.get? it=some o)(hc:o.cls=.type n)(hd:o.data=.fields vs)
  (hn:["enumerate","zip","dict_itemiterator","dict_reverseitemiterator","odict_iterator","itertools.zip_longest","itertools.pairwise"].contains n=false)(hQ:Q () s):wpAny M A (letOwnedTupleGo tg (.ref it) u) Q E s:=by
 unfold letOwnedTupleGo;cases tg<;>first
  |exact Ym hQ
  | (cases u<;>first
    |exact Ym hQ
    | (refine XU (EG ho ?_)
       rw[hc,hd];show wpAny M A (if (["enumerate","zip","dict_itemiterator","dict_reverseitemiterator","odict_iterator","itertools.zip_longest","itertools.pairwise"].contains n&&vs[0]? == some (rawInt _))=true then _ else _) Q E s
       rw[if_neg (by intro h;rw[hn,Bool.false_and]at h;cases h)];exact Ym hQ))
def Pz(K:Ad)(a:Addr):It:=
 ⟨λi H=>∃xs x,SqL K H a xs/\xs[i]?=some x,λi H x H'=>H'=H/\∀xs,SqL K H a xs->xs[i]?=some x,λi H=>∃xs,SqL K H a xs/\xs.length<=i⟩
def Py(K:Ad)(a:Addr):It:=
 ⟨λi H=>∃xs x,SqT K H a xs/\xs[i]?=some x,λi H x H'=>H'=H/\∀xs,SqT K H a xs->xs[i]?=some x,λi H=>∃xs,SqT K H a xs/\xs.length<=i⟩
def Lq(lo:Int)(n:Nat):It:=⟨λi _=>i<n,λi H x H'=>H'=H/\x=.int (lo+i),λi _=>n<=i⟩
theorem Ek{P:Program}{w:World}{K:Ad}{tg:Expr}(a it:Addr):Turn P w K tg (Pz K a) [it] it (λi h=>h.IsListIter it a i) where
 mem:=S
 obj:=λi h st b hb=>by
  have e:b=it:=by simpa using hb
  subst e;obtain⟨o,e,c,d⟩:=st;exact⟨o,e,λv z=>by rw[d]at z;cases z⟩
 keep:=λi h h' st k=>st.at λo e=>k it S o e
 item:=by
  intro X hP hw hK hc i pins s σ H E I hf st hg;subst hP hw hK;obtain⟨xs,x,hq,hx⟩:=hg;obtain⟨XT,rv,p,hz⟩:=I.list hq;obtain⟨u,hu,ru⟩:=rv.get hx;obtain⟨f0,f1,f2,f3,f4,f5⟩:=hf it S;refine wpAny_pyNext_list_item st p.isList (x:=u) (by simpa using hu) λh' VD sb=>?_;have I1:Inv X pins σ H {s with heap:=h'}:=I.turned (t':=s.toks) (λb o hb e=>(sb.2 b hb).trans e) f0 f1 f3 f4 f5
  obtain⟨o,e,c,d⟩:=id VD;exact⟨u,Z,QZ (s:={s with heap:=h'}) e c d uB ⟨x,H,I1,ru,⟨Z,λys hy=>by rwa[I.list_inj hy hq]⟩,VD,λb hb=>(hf b hb).1⟩⟩
 done:=by
  intro X hP hw hK hc i pins s σ H E I hf st hg;subst hP hw hK;obtain⟨xs,hq,hx⟩:=hg;obtain⟨XT,rv,p,hz⟩:=I.list hq;obtain⟨f0,f1,f2,f3,f4,f5⟩:=hf it S;have hl:=rv.length
  exact wpAny_pyNext_list_end (I.ok.hd hc) st p.isList (by simp;lia) λh' eb=>⟨Z,I.turned (t':=s.toks) (λb o hb e=>eb b o hb e) f0 f1 f3 f4 f5⟩
 self:=λ_ _ _ _ _ st h=>wpAny_pyIter_listiter st h
theorem fL{P:Program}{w:World}{K:Ad}{tg:Expr}(a it:Addr):Turn P w K tg (Py K a) [it] it (λi h=>h.IsTupleIter it a i) where
 mem:=S
 obj:=λi h st b hb=>by
  have e:b=it:=by simpa using hb
  subst e;obtain⟨o,e,c,d⟩:=st;exact⟨o,e,λv z=>by rw[d]at z;cases z⟩
 keep:=λi h h' st k=>st.at λo e=>k it S o e
 item:=by
  intro X hP hw hK hc i pins s σ H E I hf st hg;subst hP hw hK;obtain⟨xs,x,hq,hx⟩:=hg;obtain⟨XT,rv,p,hz⟩:=I.tuple hq;obtain⟨u,hu,ru⟩:=rv.get hx;obtain⟨f0,f1,f2,f3,f4,f5⟩:=hf it S;refine wpAny_pyNext_tuple_item st (show s.heap.IsTuple a XT.toArray from p) (x:=u) (by simpa using hu) λh' VD sb=>?_;have I1:Inv X pins σ H {s with heap:=h'}:=I.turned (t':=s.toks) (λb o hb e=>(sb.2 b hb).trans e) f0 f1 f3 f4 f5
  obtain⟨o,e,c,d⟩:=id VD;exact⟨u,Z,QZ (s:={s with heap:=h'}) e c d uB ⟨x,H,I1,ru,⟨Z,λys hy=>by rwa[I.tuple_inj hy hq]⟩,VD,λb hb=>(hf b hb).1⟩⟩
 done:=by
  intro X hP hw hK hc i pins s σ H E I hf st hg;subst hP hw hK;obtain⟨xs,hq,hx⟩:=hg;obtain⟨XT,rv,p,hz⟩:=I.tuple hq;obtain⟨f0,f1,f2,f3,f4,f5⟩:=hf it S;have hl:=rv.length
  exact wpAny_pyNext_tuple_end (I.ok.hd hc) st (show s.heap.IsTuple a XT.toArray from p) (by simp;omega) λh' eb=>⟨Z,I.turned (t':=s.toks) (λb o hb e=>eb b o hb e) f0 f1 f3 f4 f5⟩
 self:=λ_ _ _ _ _ st h=>wpAny_pyIter_tupleiter st h
theorem Zu6{P:Program}{w:World}{K:Ad}{tg:Expr}(it:Addr)(lo:Int)(n:Nat):Turn P w K tg (Lq lo n) [it] it (λi h=>IsRangeIter h it (lo+(i:Nat)*1) ((n:Int)-(i:Nat)) 1) where
 mem:=S
 obj:=λi h st b hb=>by
  have e:b=it:=by simpa using hb
  subst e;exact⟨_,st,λv z=>by have z':Data.fields _=Data.cell v:=z;cases z'⟩
 keep:=λi h h' st k=>k it S _ st
 item:=by
  intro X hP hw hK hc i pins s σ H E I hf st hg;subst hP hw hK;obtain⟨f0,f1,f2,f3,f4,f5⟩:=hf it S;have W:=Walks.range (prog:=X.prog) (w:=X.w) (I.ok.hd hc) it lo 1 n
  refine W.item i s _ _ hg st λv h' tk hv VD kk=>?_;obtain⟨t,rfl⟩:=hv;have I1:Inv X pins σ H {s with heap:=h',toks:=tk}:=I.turned (λb o hb e=>kk b o (by simpa using hb) e) f0 f1 f3 f4 f5
  refine⟨_,Z,QZ (s:={s with heap:=h',toks:=tk}) (n:="range_iterator") VD Z Z uB ⟨.int<|lo+i,H,I1,⟨t,?_⟩,⟨Z,Z⟩,VD,λb hb=>(hf b hb).1⟩⟩;rw[Na]
 done:=by intro X hP hw hK hc i pins s σ H E I hf st hg;subst hP hw hK;obtain⟨f0,f1,f2,f3,f4,f5⟩:=hf it S;exact wpAny_pyNext_range_end (I.ok.hd hc) st (by have:n<=i:=hg;lia) λh' eb=>⟨Z,I.turned (t':=s.toks) (λb o hb e=>eb b o hb e) f0 f1 f3 f4 f5⟩
 self:=λ_ _ _ _ _ st h=>wpAny_pyIter_rangeiter st h
section
variable{X:Cx}{tg:Expr}
def Lp(K:Ad)(tl:TE):TI:=λσ H R=>tl σ H λx H1=>∃a,x=.ref a/\(∃xs,SqL K H1 a xs)/\R (Pz K a) H1
def Ej(K:Ad)(tl:TE):TI:=λσ H R=>tl σ H λx H1=>∃a,x=.ref a/\(∃xs,SqT K H1 a xs)/\R (Py K a) H1
theorem tR{l:Expr}{tl:TE}(hl:PE X l tl):PI X tg l (Lp X.K tl):=by
 intro pins s σ H R I h;refine thn (hl pins s σ H _ I h) λv s1 Xv=>?_;obtain⟨x,H1,I1,r1,q1⟩:=Xv;obtain⟨a,e,⟨xs,hq⟩,q⟩:=q1;subst e;cases r1;obtain⟨XT,rv,p,hz⟩:=I1.list hq;refine yS p.isList ?_;refine⟨s1.heap.objs.size,[s1.heap.objs.size],_,_,H1,Z,I1.kept (t':=s1.toks) λb o e=>Xc _ e,Ek a _,⟨_,Yk _ Z,Z,Z⟩,λb hb=>?_,q⟩;have e:b=s1.heap.objs.size:=by simpa using hb
 subst e;exact I1.fpOk (XJ _) (I1.hok.fresh<|XJ _)
theorem tQ{l:Expr}{tl:TE}(hl:PE X l tl):PI X tg l (Ej X.K tl):=by
 intro pins s σ H R I h;refine thn (hl pins s σ H _ I h) λv s1 Xv=>?_;obtain⟨x,H1,I1,r1,q1⟩:=Xv;obtain⟨a,e,⟨xs,hq⟩,q⟩:=q1;subst e;cases r1;obtain⟨XT,rv,p,hz⟩:=I1.tuple hq;refine wpAny_pyIter_tuple (show s1.heap.IsTuple a XT.toArray from p) ?_;refine⟨s1.heap.objs.size,[s1.heap.objs.size],_,_,H1,Z,I1.kept (t':=s1.toks) λb o e=>Xc _ e,fL a _,⟨_,Yk _ Z,Z,Z⟩,λb hb=>?_,q⟩;have e:b=s1.heap.objs.size:=by simpa using hb
 subst e;exact I1.fpOk (XJ _) (I1.hok.fresh<|XJ _)
theorem fK{R:It->Hp->Prop}{E:Ae}{lo hi:Int}{t u v:Tok}{tk:Nat}(I:Inv X pins σ H s)(h1:-(2^62)<=lo)(h2:lo<2^62)(h3:-(2^62)<=hi)(h4:hi<2^62)
  (q:R (Lq lo (hi-lo).toNat) H):wpAny (model X.prog X.w) X.A (pyIter<|.ref s.heap.objs.size) (fM X pins σ tg R) E {s with heap:=s.heap.push {cls:=.type "range",data:=.fields #[.int lo t,.int hi u,.int 1 v]},toks:=tk}:=by
 refine wpAny_pyIter_range (IsRange.new ..) (small_one h1 h2 h3 h4) ?_;have I1:Inv X pins σ H {s with heap:=s.heap.push {cls:=.type "range",data:=.fields #[.int lo t,.int hi u,.int 1 v]},toks:=tk}:=I.kept λb o e=>Xc _ e
 refine⟨(s.heap.push {cls:=.type "range",data:=.fields #[.int lo t,.int hi u,.int 1 v]}).objs.size,[(s.heap.push {cls:=.type "range",data:=.fields #[.int lo t,.int hi u,.int 1 v]}).objs.size],_,_,H,Z,
  I1.kept (t':=tk) λb o e=>Xc _ e,Zu6 _ lo (hi-lo).toNat,?_,λb hb=>?_,q⟩
 .have e1:lo+((0:Nat):Int)*1=lo:=S;have e2:(((hi-lo).toNat:Nat):Int)-((0:Nat):Int)=Builtin.Range.rangeSize lo hi 1:=by rw[rangeSize_one];split<;>grind
  show IsRangeIter _ _ (lo+((0:Nat):Int)*1) ((((hi-lo).toNat:Nat):Int)-((0:Nat):Int)) 1;rw[e1,e2];exact Yk _ rfl
 .have e:b=(s.heap.push {cls:=.type "range",data:=.fields #[.int lo t,.int hi u,.int 1 v]}).objs.size:=by simpa using hb
  subst e;exact I1.fpOk (XJ _) (I1.hok.fresh<|XJ _)
def tP(ta:TA):TI:=λσ H R=>ta σ H λvs H1=>∃j:Int,vs=[.int j]/\-(2^62)<=j/\j<2^62/\R (Lq 0 j.toNat) H1
def tO(ta:TA):TI:=λσ H R=>ta σ H λvs H1=>∃i j:Int,vs=[.int i,.int j]/\(-(2^62)<=i/\i<2^62/\-(2^62)<=j/\j<2^62)/\R (Lq i (j-i).toNat) H1
theorem ZP{a:Expr}{ta:TA}{p pos:Pos}(hg:Gl X "range")(hm:X.mg "range"=none)(ha:PA X [a] ta)(hs:starEach [a] X.env=[(false,eval a X.env)]:=by rfl):PI X tg (.Call (.Name "range" p) [a] [] pos) (tP ta):=by
 intro pins s σ H R I h;refine Call_ (Ra I hg hm boot_range<|Ug (thn (ha pos pins s σ H _ I h) λus s1 Xv=>?_) hs Z);obtain⟨vs,H1,I1,r1,q1⟩:=Xv;obtain⟨j,e,q1,q2,q⟩:=q1;subst e;cases r1 with
 |cons r rr=>
  cases rr;obtain⟨t,rfl⟩:=r;exact call_range_1 (fK I1 J uD q1 q2<|by simpa using q)
theorem Zv8{a b:Expr}{ta:TA}{p pos:Pos}(hg:Gl X "range")(hm:X.mg "range"=none)(ha:PA X [a,b] ta)(hs:starEach [a,b] X.env=[(false,eval a X.env),(false,eval b X.env)]:=by rfl)(To:starEach [b] X.env=[(false,eval b X.env)]:=by rfl):
  PI X tg (.Call (.Name "range" p) [a,b] [] pos) (tO ta):=by
 intro pins s σ H R I h;refine Call_ (Ra I hg hm boot_range<|Ug (thn (ha pos pins s σ H _ I h) λus s1 zz=>?_) (by rw[hs,To])<|by rw[To];rfl);obtain⟨vs,H1,I1,r1,q1⟩:=zz;obtain⟨i,j,e,⟨q1,q2,q3,q4⟩,q⟩:=q1;subst e;cases r1 with
 |cons r rr=>
  cases rr with
  |cons r' rr=>
   cases rr;obtain⟨t,rfl⟩:=r;obtain⟨t',rfl⟩:=r';exact call_range_2 (fK I1 q1 q2 q3 q4 q)
def tN(wi:TI)(g:TG)(tb:TS):TS:=λD σ H=>wi σ H λAP H1=>∃W:Nat->Nat->St->Hp->Prop,(∃m,W 0 m σ H1)/\∀i m σ H,W i m σ H->
 (AP.stop i H/\D.nx σ H)\/(AP.go i H/\∃N:St->Hp->Prop,(∀σ' H',N σ' H'->∃m',m'<m/\W (i+1) m' σ' H')/\∀x H',AP.yld i H x H'->g x σ H' λσ2 H2=>tb {D with nx:=N,ct:=N,bk:=D.nx} σ2 H2)
def MT(fp:List Addr)(h:Heap):List (Addr×Obj):=fp.filterMap λb=>(h.get? b).map λo=>(b,o)
theorem MS{b:Addr}{o:Obj}(hb:b∈fp)(e:h.get? b=some o):(b,o)∈MT fp h:=List.mem_filterMap.mpr ⟨b,hb,by rw[e];rfl⟩
theorem fJ{p:Addr×Obj}(hp:p∈MT fp h):p.1∈fp/\h.get? p.1=some p.2:=by
 obtain⟨b,hb,e⟩:=List.mem_filterMap.mp hp;cases q:h.get? b with
 |none=>rw[q]at e;cases e
 |some o=>
  rw[q]at e;have e':(b,o)=p:=Ye e
  subst e';exact⟨hb,q⟩
theorem Inv.pinned(I:Inv X pins σ H s)(hf:∀b∈fp,FpOk X pins H b)(ho:∀b∈fp,∃o,s.heap.get? b=some o/\∀v,o.data≠.cell v):Inv X (pins++MT fp s.heap) σ H s:=
 I.pins_of λp hp=>(XE.mp hp).elim (λz=>I.pin p<|Yi _ z) λz=>by obtain⟨hb,e⟩:=fJ z;obtain⟨f0,f1,f2,_⟩:=hf p.1 hb;obtain⟨o,e',d⟩:=ho p.1 hb;rw[e]at e';cases e';exact⟨e,f0,f1,f2,d⟩
theorem Inv.unpinned{pins pl:List (Addr×Obj)}(I:Inv X (pins++pl) σ H s):Inv X pins σ H s:=I.pins_of λp hp=>I.pin p (Yi _<|Yd _ hp)
theorem Va{iter:Expr}{body:List Stmt}{wi:TI}{g:TG}{tb:TS}{pos:Pos}(hp:PassesOwn (model X.prog X.w) X.A X.env X.xe)(hc:X.calm=true)(hi:PI X tg iter wi)(hg:PG X tg g)(hb:PSs X body tb)
  (hs:∀x,foldedSetIterable iter X.env x=pure x:=by intro _;rfl):PS X (.For tg iter body [] pos) (tN wi g tb):=by
 intro pins s σ H D I h;refine wpAny_For (thn (hi pins s σ H _ I h) λv s1 h1=>thn h1 λtS s2 h2=>?_) hs;obtain⟨it,fp,tn,AP,H2,e,I2,T,MR,f2,W,⟨m0,w0⟩,turn⟩:=h2;subst e;have Jt:∀{H':Hp},(∀b∈fp,H' b=none)->∀b∈fp,FpOk X pins H' b:=λhn b hb=>⟨hn b hb,(f2 b hb).2⟩
 refine codeAny_forLoop_any (λn s'=>∃i σ' H',Inv X pins σ' H' s'/\tn i s'.heap/\(∀b∈fp,H' b=none)/\W i n σ' H') ?_ m0 ⟨0,σ,H2,I2,MR,λb hb=>(f2 b hb).1,w0⟩;rintro n s3 ⟨i,σ3,H3,I3,fI,fH,w3⟩;rcases turn i n σ3 H3 w3 with ⟨stop,qn⟩|⟨go,N,hN,step⟩
 .refine JT hp (thn (T.done X Z Z Z hc i pins s3 σ3 H3 X.xe I3 (Jt fH) fI stop) λr s4 zz=>?_);obtain⟨hr,I4⟩:=zz;subst hr;exact yL ⟨σ3,H3,I4,qn⟩
 .refine JT hp (thn (T.item X Z Z Z hc i pins s3 σ3 H3 X.xe I3 (Jt fH) fI go) λr s4 Xv=>?_);obtain⟨u,hr,h4⟩:=Xv;subst hr;refine JT hp (thn h4 λ_ s5 Xv=>?_);obtain⟨x,H5,I5,r5,y5,Jr,tL⟩:=Xv;have tK:=I5.pinned (Jt tL) (T.obj _ _ Jr)
  refine JT hp (thn (hg _ s5 σ3 H5 x u _ tK r5<|step x H5 y5) λ_ s6 Xv=>?_);obtain⟨σ6,H6,I6,q6⟩:=Xv;refine JT hp (thn (hb _ s6 σ6 H6 _ I6 q6) λf s7 q7=>?_);have again:∀{σ7:St}{H7:Hp},Inv X (pins++MT fp s5.heap) σ7 H7 s7->N σ7 H7->∃m,m<n/\∃i σ' H',Inv X pins σ' H' s7/\tn i s7.heap/\(∀b∈fp,H' b=none)/\W i m σ' H':=λ{σ7 H7} I7 n7=>by obtain⟨m',hm,w7⟩:=hN σ7 H7 n7;refine⟨m',hm,i+1,σ7,H7,I7.unpinned,T.keep _ _ _ Jr λb hb o e=>(I7.pin (b,o)<|Yi _<|Yi _<|MS hb e).1,λb hb=>?_,w7⟩;obtain⟨o,e,d⟩:=T.obj _ _ Jr b hb;exact(I7.pin (b,o)<|Yi _<|Yi _<|MS hb e).2.1
  cases f with
  |next=>obtain⟨σ7,H7,I7,n7⟩:=q7;exact again I7 n7
  |cont=>obtain⟨σ7,H7,I7,n7⟩:=q7;exact again I7 n7
  |brk=>obtain⟨σ7,H7,I7,q7⟩:=q7;exact⟨σ7,H7,I7.unpinned,q7⟩
  |ret v=>obtain⟨x7,σ7,H7,I7,r7,q7⟩:=q7;exact⟨x7,σ7,H7,I7.unpinned,r7,q7⟩
end
theorem ym{K:Ad}{a:Addr}{xs:List V}{g:TG}{tb:TS}{D:Ends}{σ:St}{H:Hp}(Pv:Nat->St->Hp->Prop)(h0:Pv 0 σ H)(hl:∀i σ H,i<=xs.length->Pv i σ H->SqL K H a xs)
  (hs:∀i x σ H,xs[i]?=some x->Pv i σ H->g x σ H λσ2 H2=>tb {D with nx:=Pv<|i+1,ct:=Pv<|i+1,bk:=D.nx} σ2 H2)(hd:∀σ H,Pv xs.length σ H->D.nx σ H):
  ∃W:Nat->Nat->St->Hp->Prop,(∃m,W 0 m σ H)/\∀i m σ H,W i m σ H->
   ((Pz K a).stop i H/\D.nx σ H)\/((Pz K a).go i H/\∃N:St->Hp->Prop,(∀σ' H',N σ' H'->∃m',m'<m/\W (i+1) m' σ' H')/\∀x H',(Pz K a).yld i H x H'->g x σ H' λσ2 H2=>tb {D with nx:=N,ct:=N,bk:=D.nx} σ2 H2):=by
 refine⟨λi m σ H=>m=xs.length-i/\i<=xs.length/\Pv i σ H,⟨xs.length,S,Yj _,h0⟩,?_⟩;rintro i m σ H ⟨rfl,hi,p⟩;have q:=hl i σ H hi p
 by_cases Xn:i<xs.length
 .refine .inr ⟨⟨xs,xs[i],q,by simp[Xn]⟩,Pv<|i+1,λσ' H' p'=>⟨xs.length-(i+1),uD,Z,Xn,p'⟩,λx H' y=>?_⟩;obtain⟨e,y⟩:=y;subst e;exact hs i x σ _ (y xs q) p
 .have e:i=xs.length:=J;subst e;exact .inl ⟨⟨xs,q,XJ _⟩,hd σ H p⟩
theorem tJ{K:Ad}{a:Addr}{xs:List V}{g:TG}{tb:TS}{D:Ends}{σ:St}{H:Hp}(Pv:Nat->St->Hp->Prop)(h0:Pv 0 σ H)(hl:∀i σ H,i<=xs.length->Pv i σ H->SqT K H a xs)
  (hs:∀i x σ H,xs[i]?=some x->Pv i σ H->g x σ H λσ2 H2=>tb {D with nx:=Pv<|i+1,ct:=Pv<|i+1,bk:=D.nx} σ2 H2)(hd:∀σ H,Pv xs.length σ H->D.nx σ H):
  ∃W:Nat->Nat->St->Hp->Prop,(∃m,W 0 m σ H)/\∀i m σ H,W i m σ H->
   ((Py K a).stop i H/\D.nx σ H)\/((Py K a).go i H/\∃N:St->Hp->Prop,(∀σ' H',N σ' H'->∃m',m'<m/\W (i+1) m' σ' H')/\∀x H',(Py K a).yld i H x H'->g x σ H' λσ2 H2=>tb {D with nx:=N,ct:=N,bk:=D.nx} σ2 H2):=by
 refine⟨λi m σ H=>m=xs.length-i/\i<=xs.length/\Pv i σ H,⟨xs.length,S,Yj _,h0⟩,?_⟩;rintro i m σ H ⟨rfl,hi,p⟩;have q:=hl i σ H hi p
 by_cases Xn:i<xs.length
 .refine .inr ⟨⟨xs,xs[i],q,by simp[Xn]⟩,Pv<|i+1,λσ' H' p'=>⟨xs.length-(i+1),uD,Z,Xn,p'⟩,λx H' y=>?_⟩;obtain⟨e,y⟩:=y;subst e;exact hs i x σ _ (y xs q) p
 .have e:i=xs.length:=uD;subst e;exact .inl ⟨⟨xs,q,XJ _⟩,hd σ H p⟩
theorem Uc{lo:Int}{n:Nat}{g:TG}{tb:TS}{D:Ends}{σ:St}{H:Hp}(Pv:Nat->St->Hp->Prop)(h0:Pv 0 σ H)
  (hs:∀i σ H,i<n->Pv i σ H->g (.int<|lo+i) σ H λσ2 H2=>tb {D with nx:=Pv<|i+1,ct:=Pv<|i+1,bk:=D.nx} σ2 H2)(hd:∀σ H,Pv n σ H->D.nx σ H):
  ∃W:Nat->Nat->St->Hp->Prop,(∃m,W 0 m σ H)/\∀i m σ H,W i m σ H->
   ((Lq lo n).stop i H/\D.nx σ H)\/((Lq lo n).go i H/\∃N:St->Hp->Prop,(∀σ' H',N σ' H'->∃m',m'<m/\W (i+1) m' σ' H')/\∀x H',(Lq lo n).yld i H x H'->g x σ H' λσ2 H2=>tb {D with nx:=N,ct:=N,bk:=D.nx} σ2 H2):=by
 refine⟨λi m σ H=>m=n-i/\i<=n/\Pv i σ H,⟨n,S,Yj _,h0⟩,?_⟩;rintro i m σ H ⟨rfl,hi,p⟩;by_cases Xn:i<n
 .refine .inr ⟨Xn,Pv<|i+1,λσ' H' p'=>⟨n-(i+1),uD,Z,Xn,p'⟩,λx H' y=>?_⟩;obtain⟨e,y⟩:=y;subst e y;exact hs i σ _ Xn p
 .have e:i=n:=J;subst e;exact .inl ⟨XJ _,hd σ H p⟩
abbrev R2:=V->V->Hp->VK->Prop
def WH(X:Cx)(f:Value->Value->Sem Value)(r:R2):Prop:=
 ∀(pins:List (Addr×Obj))(s:Shared)(σ:St)(H:Hp)(x y:V)(v u:Value)(Q:VK),Inv X pins σ H s->RelV x v->RelV y u->r x y H Q->
  wpAny (model X.prog X.w) X.A (f v u) (EP X pins σ Q) X.xe s
def tH(X:Cx)(f:Value->Sem Value)(r:V->Hp->VK->Prop):Prop:=
 ∀(pins:List (Addr×Obj))(s:Shared)(σ:St)(H:Hp)(x:V)(v:Value)(Q:VK),Inv X pins σ H s->RelV x v->r x H Q->
  wpAny (model X.prog X.w) X.A (f v) (EP X pins σ Q) X.xe s
def Vx(X:Cx)(f:Value)(r:List V->Hp->VK->Prop):Prop:=
 ∀(pins:List (Addr×Obj))(s:Shared)(σ:St)(H:Hp)(xs:List V)(us:Ag)(Q:VK),Inv X pins σ H s->Vals xs us->r xs H Q->
  wpAny (model X.prog X.w) X.A (call f us) (EP X pins σ Q) X.xe s
def yk(r:R2)(ta tb:TE):TE:=λσ H Q=>ta σ H λx H1=>tb σ H1 λy H2=>r x y H2 Q
def tUn(r:V->Hp->VK->Prop)(ta:TE):TE:=λσ H Q=>ta σ H λx H1=>r x H1 Q
inductive rI(C:Int->Int->Prop)(g:Int->Int->V)(x:V)(y:V)(H:Hp)(Q:VK):Prop
 |mk (i j:_) (_:x=.int i) (_:y=.int j) (_:C i j) (_:Q (g i j) H)
inductive rI0(g:Int->Int->V)(x:V)(y:V)(H:Hp)(Q:VK):Prop
 |mk (i j:_) (_:x=.int i) (_:y=.int j) (_:Q (g i j) H)
inductive rU(g:Int->V)(x:V)(H:Hp)(Q:VK):Prop
 |mk (i:_) (_:x=.int i) (_:Q (g i) H)
section
variable{X:Cx}{a b:Expr}{ta tb:TE}{pos:Pos}
theorem Jq(ha:PE X a ta)(hb:PE X b tb){pins:List (Addr×Obj)}{s:Shared}{σ:St}{H:Hp}{R:V->V->Hp->Prop}(I:Inv X pins σ H s)
  (h:ta σ H λx H1=>tb σ H1 λy H2=>R x y H2){Q:Ae}{f:Value->Value->Sem Value}
  (hf:∀v u s2 x y H2,Inv X pins σ H2 s2->RelV x v->RelV y u->R x y H2->wpAny (model X.prog X.w) X.A (f v u) Q X.xe s2):
  wpAny (model X.prog X.w) X.A (eval a X.env) (λv s₁=>wpAny (model X.prog X.w) X.A (eval b X.env) (λu s₂=>wpAny (model X.prog X.w) X.A (f v u) Q X.xe s₂) X.xe s₁) X.xe s:=by refine thn (ha pins s σ H _ I h) λv s1 Xv=>?_;obtain⟨x,H1,I1,r1,q1⟩:=Xv;refine thn (hb pins s1 σ H1 _ I1 q1) λu s2 Xv=>?_;obtain⟨y,H2,I2,r2,q2⟩:=Xv;exact hf v u s2 x y H2 I2 r1 r2 q2
theorem Zr(ho:WH X (binaryOp op) r)(ha:PE X a ta)(hb:PE X b tb):PE X (.BinOp a op b pos) (yk r ta tb):=by intro pins s σ H Q I h;exact wpAny_BinOp (Jq ha hb I h λv u s2 x y H2 I2 rx ry q=>ho pins s2 σ H2 x y v u Q I2 rx ry q)
theorem Ei{op:UnaryOp}{r:V->Hp->VK->Prop}(ho:tH X (unaryOp op) r)(ha:PE X a ta):PE X (.UnaryOp op a pos) (tUn r ta):=by intro pins s σ H Q I h;exact UnaryOp_ (thn (ha pins s σ H _ I h) λv s1 zz=>by obtain⟨x,H1,I1,r1,q1⟩:=zz;exact ho pins s1 σ H1 x v Q I1 r1 q1)
theorem Gs{f:Value->Value->Sem Value}{C:Int->Int->Prop}{g:Int->Int->Int}
  (rule:∀(i j:Int)(t u:Tok)(s:Shared)(Q:Ae)(E:Ae),C i j->Q (.int (g i j) s.toks) {s with toks:=s.toks+1}->wpAny (model X.prog X.w) X.A (f (.int i t)<|.int j u) Q E s):
  WH X f (rI C λi j=>.int<|g i j):=by intro pins s σ H x y v u Q I rx ry h;obtain⟨i,j,rfl,rfl,hc,q⟩:=h;obtain⟨t,rfl⟩:=rx;obtain⟨t',rfl⟩:=ry;exact rule i j t t' s _ _ hc ⟨.int<|g i j,H,I.tok _,⟨_,Z⟩,q⟩
theorem Eh{f:Value->Value->Sem Value}{g:Int->Int->Int}
  (rule:∀(i j:Int)(t u:Tok)(s:Shared)(Q:Ae)(E:Ae),Q (.int (g i j) s.toks) {s with toks:=s.toks+1}->wpAny (model X.prog X.w) X.A (f (.int i t)<|.int j u) Q E s):
  WH X f (rI0 λi j=>.int<|g i j):=by intro pins s σ H x y v u Q I rx ry h;obtain⟨i,j,rfl,rfl,q⟩:=h;obtain⟨t,rfl⟩:=rx;obtain⟨t',rfl⟩:=ry;exact rule i j t t' s _ _ ⟨.int<|g i j,H,I.tok _,⟨_,Z⟩,q⟩
theorem MQ{f:Value->Value->Sem Value}{g:Int->Int->Bool}
  (rule:∀(i j:Int)(t u:Tok)(s:Shared)(Q:Ae)(E:Ae),Q (.bool<|g i j) s->wpAny (model X.prog X.w) X.A (f (.int i t)<|.int j u) Q E s):
  WH X f (rI0 λi j=>.bl<|g i j):=by intro pins s σ H x y v u Q I rx ry h;obtain⟨i,j,rfl,rfl,q⟩:=h;obtain⟨t,rfl⟩:=rx;obtain⟨t',rfl⟩:=ry;exact rule i j t t' s _ _ ⟨.bl<|g i j,H,I,Z,q⟩
def Eg(i j:Int):Prop:=0<j/\j<1073741824
def tG(i j:Int):Prop:=0<=j/\j<=1000000/\i.natAbs<2^64
def CMul(i j:Int):Prop:=(-(2^64)<i/\i<2^64)\/(-(2^64)<j/\j<2^64)
theorem CMul.ok(h:CMul i j):IntMulOk i j:=by
 rcases h with ⟨h1,h2⟩|⟨h1,h2⟩
 .exact .of_left (intBits_le_64 h1 h2)
 .exact .of_right (intBits_le_64 h1 h2)
theorem UM:WH X (binaryOp .Add) (rI0 λi j=>.int (i+j)):=Eh λ_ _ _ _ _ _ _ q=>add_int q
theorem SI:WH X (binaryOp .Sub) (rI0 λi j=>.int (i-j)):=Eh λ_ _ _ _ _ _ _ q=>sub_int q
theorem Px:WH X (binaryOp .Mult) (rI CMul λi j=>.int (i*j)):=Gs λ_ _ _ _ _ _ _ hc q=>mul_int q hc.ok
theorem Pw:WH X (binaryOp .FloorDiv) (rI Eg λi j=>.int (i/j)):=Gs λi j _ _ _ _ _ hc q=>by
 have h1:(0:Int)<j:=hc.1;have h2:j<1073741824:=hc.2
 exact floordiv_int J (by rwa[Int.fdiv_eq_ediv_of_nonneg i J]) (.inl<|PyProof.noPylong_small uD)
theorem ZL:WH X (binaryOp .Mod) (rI (λ_ j=>0<j) λi j=>.int (i%j)):=Gs λi j _ _ _ _ _ hc q=>by have h1:(0:Int)<j:=hc;exact mod_int' uD (by rwa[Int.fmod_eq_emod_of_nonneg i J])
theorem Tn:WH X (binaryOp .Pow) (rI tG λi j=>.int (i^j.toNat)):=Gs λ_ _ _ _ _ _ _ hc q=>pow_int_small hc.1 hc.2.1 hc.2.2 q
theorem unI{f:Value->Sem Value}{g:Int->Int}
  (rule:∀(i:Int)(t:Tok)(s:Shared)(Q:Ae)(E:Ae),Q (.int (g i) s.toks) {s with toks:=s.toks+1}->wpAny (model X.prog X.w) X.A (f<|.int i t) Q E s):
  tH X f (rU λi=>.int<|g i):=by intro pins s σ H x v Q I rx h;obtain⟨i,rfl,q⟩:=h;obtain⟨t,rfl⟩:=rx;exact rule i t s _ _ ⟨.int<|g i,H,I.tok _,⟨_,Z⟩,q⟩
theorem Lo:tH X (unaryOp .USub) (rU λi=>.int (-i)):=unI λ_ _ _ _ _ q=>neg_int q
end
def Ef:V->V->Bool
 | .non,.non=>true | .non,.int _=>true | .int _,.non=>true | .non,.bl _=>true | .bl _,.non=>true | .non,.str _=>true | .str _,.non=>true
 | .int _,.int _=>true | .bl _,.bl _=>true | .str _,.str _=>true | .byt _,.byt _=>true
 | .int _,.str _=>true | .str _,.int _=>true | .bl _,.str _=>true | .str _,.bl _=>true
 |_,_=>false
inductive rEq(x:V)(y:V)(H:Hp)(Q:VK):Prop
 |mk  (_:Ef x y=true) (_:Q (.bl<|decide<|x=y) H)
inductive rNe(x:V)(y:V)(H:Hp)(Q:VK):Prop
 |mk  (_:Ef x y=true) (_:Q (.bl<|!decide (x=y)) H)
theorem Zy:decide (V.int i=V.int j)=(i == j):=by rw[Qq];simp
theorem Ee:decide (V.bl i=V.bl j)=(i == j):=by rw[Qq];simp
theorem Ln:decide (V.str i=V.str j)=(i == j):=by rw[Qq];simp
theorem Lm:decide (V.byt i=V.byt j)=(i.toList == j.toList):=by rw[Qq];cases i;cases j;simp
section
variable{X:Cx}{a b c:Expr}{ta tb tc:TE}{pos:Pos}
theorem ZM{k k':Bool}(I:Inv X pins σ H s)(q:Q (.bl k) H)(e:k=k'):EP X pins σ Q (.bool k') s:=by subst e;exact⟨.bl k,H,I,Z,q⟩
theorem SH:WH X (compareOp .Eq) rEq:=by
 intro pins s σ H x y v u Q I rx ry h;obtain⟨hs,q⟩:=h;cases x with
 |non=>
  cases rx;cases y with
  |non=>cases ry;exact PySem.EqNone.eq_none_none (ZM I q S)
  |bl j=>cases ry;exact PySem.EqNone.eq_none_bool (ZM I q S)
  |int j=>obtain⟨t',rfl⟩:=ry;exact PySem.EqNone.eq_none_int (ZM I q S)
  |str j=>obtain⟨t',rfl⟩:=ry;exact PySem.EqNone.eq_none_str (ZM I q S)
  |_=>exact absurd (show false=true from hs) Yy
 |bl i=>
  cases rx;cases y with
  |non=>cases ry;exact PySem.EqNone.eq_bool_none (ZM I q S)
  |bl j=>cases ry;exact eq_bool (ZM I q Ee)
  |str j=>obtain⟨t',rfl⟩:=ry;exact PySem.EqMixed.eq_bool_str (ZM I q S)
  |_=>exact absurd (show false=true from hs) Yy
 |int i=>
  obtain⟨t,rfl⟩:=rx;cases y with
  |non=>cases ry;exact PySem.EqNone.eq_int_none (ZM I q S)
  |int j=>obtain⟨t',rfl⟩:=ry;exact eq_int (ZM I q Zy)
  |str j=>obtain⟨t',rfl⟩:=ry;exact PySem.EqMixed.eq_int_str (ZM I q S)
  |_=>exact absurd (show false=true from hs) Yy
 |str i=>
  obtain⟨t,rfl⟩:=rx;cases y with
  |non=>cases ry;exact PySem.EqNone.eq_str_none (ZM I q S)
  |bl j=>cases ry;exact PySem.EqMixed.eq_str_bool (ZM I q S)
  |int j=>obtain⟨t',rfl⟩:=ry;exact PySem.EqMixed.eq_str_int (ZM I q S)
  |str j=>obtain⟨t',rfl⟩:=ry;exact eq_str (ZM I q Ln)
  |_=>exact absurd (show false=true from hs) Yy
 |byt i=>
  obtain⟨t,rfl⟩:=rx;cases y with
  |byt j=>obtain⟨t',rfl⟩:=ry;exact PySem.W.eq_bytes (ZM I q Lm)
  |_=>exact absurd (show false=true from hs) Yy
 |_=>cases y<;>exact absurd (show false=true from hs) Yy
theorem Ub:WH X (compareOp .NotEq) rNe:=by
 intro pins s σ H x y v u Q I rx ry h;obtain⟨hs,q⟩:=h;cases x with
 |non=>
  cases rx;cases y with
  |non=>cases ry;exact PySem.EqNone.ne_none_none (ZM I q S)
  |bl j=>cases ry;exact PySem.EqNone.ne_none_bool (ZM I q S)
  |int j=>obtain⟨t',rfl⟩:=ry;exact PySem.EqNone.ne_none_int (ZM I q S)
  |str j=>obtain⟨t',rfl⟩:=ry;exact PySem.EqNone.ne_none_str (ZM I q S)
  |_=>exact absurd (show false=true from hs) Yy
 |bl i=>
  cases rx;cases y with
  |non=>cases ry;exact PySem.EqNone.ne_bool_none (ZM I q S)
  |bl j=>cases ry;exact ne_bool (ZM I q<|Xy not Ee)
  |str j=>obtain⟨t',rfl⟩:=ry;exact PySem.EqMixed.ne_bool_str (ZM I q S)
  |_=>exact absurd (show false=true from hs) Yy
 |int i=>
  obtain⟨t,rfl⟩:=rx;cases y with
  |non=>cases ry;exact PySem.EqNone.ne_int_none (ZM I q S)
  |int j=>obtain⟨t',rfl⟩:=ry;exact ne_int (ZM I q<|Xy not Zy)
  |str j=>obtain⟨t',rfl⟩:=ry;exact PySem.EqMixed.ne_int_str (ZM I q S)
  |_=>exact absurd (show false=true from hs) Yy
 |str i=>
  obtain⟨t,rfl⟩:=rx;cases y with
  |non=>cases ry;exact PySem.EqNone.ne_str_none (ZM I q S)
  |bl j=>cases ry;exact PySem.EqMixed.ne_str_bool (ZM I q S)
  |int j=>obtain⟨t',rfl⟩:=ry;exact PySem.EqMixed.ne_str_int (ZM I q S)
  |str j=>obtain⟨t',rfl⟩:=ry;exact ne_str (ZM I q<|Xy not Ln)
  |_=>exact absurd (show false=true from hs) Yy
 |byt i=>
  obtain⟨t,rfl⟩:=rx;cases y with
  |byt j=>obtain⟨t',rfl⟩:=ry;exact PySem.W.ne_bytes (ZM I q<|Xy not Lm)
  |_=>exact absurd (show false=true from hs) Yy
 |_=>cases y<;>exact absurd (show false=true from hs) Yy
theorem UC:WH X (compareOp .Lt) (rI0 λi j=>.bl (decide (i<j))):=MQ λ_ _ _ _ _ _ _ q=>lt_int q
theorem Ll:WH X (compareOp .LtE) (rI0 λi j=>.bl (decide (i<=j))):=MQ λ_ _ _ _ _ _ _ q=>le_int q
theorem MP:WH X (compareOp .Gt) (rI0 λi j=>.bl (decide (j<i))):=MQ λ_ _ _ _ _ _ _ q=>gt_int q
theorem Lk:WH X (compareOp .GtE) (rI0 λi j=>.bl (decide (j<=i))):=MQ λ_ _ _ _ _ _ _ q=>ge_int q
theorem Ec:WH X (compareOp .Is) (λx y H Q=>y=.non/\Q (.bl (decide (x=.non))) H):=by
 intro pins s σ H x y v u Q I rx ry h;obtain⟨rfl,q⟩:=h;cases ry;refine is_none_gen (ZM I q ?_);cases x<;>first
  | (cases rx;rfl)
  | (obtain⟨t,rfl⟩:=rx;rfl)
theorem fG:WH X (compareOp .IsNot) (λx y H Q=>y=.non/\Q (.bl (!decide (x=.non))) H):=by
 intro pins s σ H x y v u Q I rx ry h;obtain⟨rfl,q⟩:=h;cases ry;refine isnot_none_gen (ZM I q ?_);cases x<;>first
  | (cases rx;rfl)
  | (obtain⟨t,rfl⟩:=rx;rfl)
theorem ZE4:WH X (compareOp .NotIn) (λx y H Q=>∃i j,x=.str i/\y=.str j/\Q (.bl (!(!(Builtin.Str.occurrences j i 0 j.length 1).isEmpty))) H):=by intro pins s σ H x y v u Q I rx ry h;obtain⟨i,j,rfl,rfl,q⟩:=h;obtain⟨t,rfl⟩:=rx;obtain⟨t',rfl⟩:=ry;exact notIn_str (ZM I q Z)
theorem Zo(b:Expr)(h:op≠.In:=by decide)(h2:op≠.NotIn:=by decide):behindInMarks op b=false:=by
 have e1:(op == CmpOp.In)=false:=by cases op<;>first|rfl|exact absurd rfl h
 have e2:(op == CmpOp.NotIn)=false:=by cases op<;>first|rfl|exact absurd rfl h2
 cases b<;>simp[behindInMarks,e1,e2]
theorem Sn(ho:WH X (compareOp op) r)(ha:PE X a ta)(hb:PE X b tb)(hm:behindInMarks op b=false):PE X (.Compare a [op] [b] pos) (yk r ta tb):=by intro pins s σ H Q I h;exact wpAny_Compare1 (Jq ha hb I h λv u s2 x y H2 I2 rx ry q=>ho pins s2 σ H2 x y v u Q I2 rx ry q) hm
def Eb(t:TE):TT:=λσ H Q=>t σ H λx H'=>isB x H' Q
theorem Zh{op:CmpOp}{r:R2}(ho:WH X (compareOp op) r)(ha:PE X a ta)(hb:PE X b tb)(hm:behindInMarks op b=false):PT X (.Compare a [op] [b] pos) (Eb (yk r ta tb)):=by
 intro pins s σ H Q I h;refine wpAny_isTrue_Compare1 (thn (ha pins s σ H _ I h) λv s1 ⟨x,H1,I1,r1,q1⟩=>thn (hb pins s1 σ H1 _ I1 q1) λu s2 ⟨y,H2,I2,r2,q2⟩=>
  thn (ho pins s2 σ H2 x y v u _ I2 r1 r2 q2) λc s3 ⟨z,H3,I3,r3,k,e,q3⟩=>?_) hm
 subst e;cases r3;exact PK ⟨H3,I3,q3⟩
def Ea(r r':R2)(ta tb tc:TE):TE:=λσ H Q=>ta σ H λx H1=>tb σ H1 λy H2=>r x y H2 λz H3=>∃k,z=.bl k/\
 (if k=true then tc σ H3 λw' H4=>r' y w' H4 Q else Q (.bl false) H3)
theorem tE{op Jp:CmpOp}{r r':R2}(ho:WH X (compareOp op) r)(Vj:WH X (compareOp Jp) r')(ha:PE X a ta)(hb:PE X b tb)(hc:PE X c tc)
  (hm:lastMarks [op,Jp] [b,c]=false:=by with_unfolding_all rfl):PE X (.Compare a [op,Jp] [b,c] pos) (Ea r r' ta tb tc):=by
 intro pins s σ H Q I h;refine Compare_chain (thn (ha pins s σ H _ I h) λv s1 ⟨x,H1,I1,r1,q1⟩=>chain_link (thn (hb pins s1 σ H1 _ I1 q1) λu s2 ⟨y,H2,I2,r2,q2⟩=>
  thn (ho pins s2 σ H2 x y v u _ I2 r1 r2 q2) λd s3 ⟨z,H3,I3,r3,k,e,q3⟩=>?_)) hm
 subst e;cases r3;refine PK ?_;cases k with
 |false=>exact ite_ff ⟨.bl false,H3,I3,Z,q3⟩
 |true=>exact ite_tt (chain_last<|thn (hc pins s3 σ H3 _ I3 q3) λw' s4 zz=>by obtain⟨z',H4,I4,r4,q4⟩:=zz;exact Vj pins s4 σ H4 y z' u w' Q I4 r2 r4 q4)
theorem yj{op Jp:CmpOp}{r r':R2}(ho:WH X (compareOp op) r)(Vj:WH X (compareOp Jp) r')(ha:PE X a ta)(hb:PE X b tb)(hc:PE X c tc)
  (hm:lastMarks [op,Jp] [b,c]=false:=by with_unfolding_all rfl):PT X (.Compare a [op,Jp] [b,c] pos) (Eb<|Ea r r' ta tb tc):=by
 intro pins s σ H Q I h;refine isTrue_chain (thn (ha pins s σ H _ I h) λv s1 ⟨x,H1,I1,r1,q1⟩=>test_link (thn (hb pins s1 σ H1 _ I1 q1) λu s2 ⟨y,H2,I2,r2,q2⟩=>
  thn (ho pins s2 σ H2 x y v u _ I2 r1 r2 q2) λd s3 ⟨z,H3,I3,r3,k,e,q3⟩=>?_)) hm
 subst e;cases r3;refine PK ?_;cases k with
 |false=>
  obtain⟨k',e',q'⟩:=q3;cases e';exact ite_ff ⟨H3,I3,q'⟩
 |true=>
  refine ite_tt (test_last<|thn (hc pins s3 σ H3 _ I3 q3) λw' s4 zz=>?_);obtain⟨z',H4,I4,r4,q4⟩:=zz;refine thn (Vj pins s4 σ H4 y z' u w' _ I4 r2 r4 q4) λd' s5 Xv=>?_;obtain⟨z2,H5,I5,r5,k2,e2,q5⟩:=Xv;subst e2;cases r5;exact PK ⟨H5,I5,q5⟩
theorem Jo:(sizeLine:Nat)<2^63:=by rw[TF];decide
theorem ZZ6:WH X (binaryOp .Add) (λx y H Q=>∃i j,x=.str i/\y=.str j/\i.length+j.length<=sizeLine/\Q (.str (i++j)) H):=by intro pins s σ H x y v u Q I rx ry h;obtain⟨i,j,rfl,rfl,hz,q⟩:=h;obtain⟨t,rfl⟩:=rx;obtain⟨t',rfl⟩:=ry;exact add_str (λt' tk=>⟨.str<|i++j,H,I.tok _,⟨_,Z⟩,q⟩) hz
theorem WL{us:Ag}(r:Vals [x] us):∃u,us=[u]/\RelV x u:=by
 cases r with
 |cons r1 r2=>cases r2;exact⟨_,Z,r1⟩
theorem Pu{us:Ag}(r:Vals [x,y] us):∃u w',us=[u,w']/\RelV x u/\RelV y w':=by
 cases r with
 |cons r1 r2=>
  cases r2 with
  |cons r3 r4=>cases r4;exact⟨_,_,Z,r1,r3⟩
theorem DZ(hc:X.calm=true):Vx X (.builtin "max") (λxs H Q=>∃i j,xs=[.int i,.int j]/\Q (.int (if j>i then j else i)) H):=by
 intro pins s σ H xs us Q I r h;obtain⟨i,j,rfl,q⟩:=h;obtain⟨u,w',rfl,⟨t,rfl⟩,⟨t',rfl⟩⟩:=Pu r;refine max_two_ints (I.ok.hd hc) λh' tk k=>⟨_,H,I.kept k,?_,q⟩;by_cases hj:j>i
 .rw[if_pos hj,if_pos hj];exact⟨_,Z⟩
 .rw[if_neg hj,if_neg hj];exact⟨_,Z⟩
theorem yi(hc:X.calm=true):Vx X (.builtin "min") (λxs H Q=>∃i j,xs=[.int i,.int j]/\Q (.int (if j<i then j else i)) H):=by
 intro pins s σ H xs us Q I r h;obtain⟨i,j,rfl,q⟩:=h;obtain⟨u,w',rfl,⟨t,rfl⟩,⟨t',rfl⟩⟩:=Pu r;refine min_two_ints (I.ok.hd hc) λh' tk k=>⟨_,H,I.kept k,?_,q⟩;by_cases hj:j<i
 .rw[if_pos hj,if_pos hj];exact⟨_,Z⟩
 .rw[if_neg hj,if_neg hj];exact⟨_,Z⟩
theorem ZS4:Vx X (.type "str") (λxs H Q=>∃i,xs=[.int i]/\i.natAbs.log2<1920/\Q (.str (toString i)) H):=by intro pins s σ H xs us Q I r h;obtain⟨i,rfl,hz,q⟩:=h;obtain⟨u,rfl,t,rfl⟩:=WL r;exact PySem.P.str_of_int hz ⟨.str _,H,I.tok _,⟨_,Z⟩,q⟩
end
structure ObjM(h:Heap)(x dx C:Addr)(mA:Af):Prop where
 obj:h.get? x=some (PySem.W.instObj C dx)
 ns:h.Ns1 dx mA
 ne:dx≠x
theorem ZL8{h:Heap}{mA:Af}(n:h.Ns1 dx mA):∃od,h.get? dx=some od/\∀name,PySem.W.lookIn name od=some (mA name):=by
 obtain⟨o,es,ep,ho,hd,hk,_,hm⟩:=n;refine⟨o,ho,λname=>?_⟩;have e:=hm name
 unfold nsFind findBy at e;rw[<-Array.find?_toList]at e;unfold PySem.W.lookIn;rw[hd];dsimp only;split
 .rename_i y q;rw[q]at e;exact Xy some e
 .rename_i q;rw[q]at e;have a:es.toList.any (·.refKey)=false:=by rw[List.any_eq_false];intro y hy;obtain⟨z,t,tD⟩:=hk y (Array.mem_toList_iff.mp hy);simp[DictEntry.refKey,tD]
  have a':¬es.toList.any (·.refKey)=true:=by rw[a];exact Yy
  rw[if_neg a'];exact Xy some e
theorem ObjM.look{mA:Af}(I:ObjM h x dx C mA):∃od,PySem.W.InstAt h x (PySem.W.instObj C dx) C (some od)/\∀name,PySem.W.lookIn name od=some (mA name):=
 let ⟨od,ho,hl⟩:=ZL8 I.ns
 ⟨od,⟨I.obj,Z,Z,ho⟩,hl⟩
section
variable{prog:Program}{w:World}{A:Around}{E:Ae}{s:Shared}{K:Ad}{x dx C f:Addr}{mA:Af}{name:Str}{v:Value}
theorem tw{Q:Ae}(X:K.In s.heap)(I:ObjM s.heap x dx C mA)(hg:PySem.W.plainGet K C name=true)(hh:PySem.W.hasDictIn K C=true)
  (ha:PySem.W.findIn K (.ref C) name=some none)(hv:mA name=some v)(yh:PySem.W.handedIn v=true)(h:Q v {s with toks:=s.toks+1}):
  wpAny (model prog w) A (getAttr (.ref x) name expr) Q E s:=by obtain⟨od,AP,hl⟩:=I.look;exact PySem.W.get_value X AP (PySem.W.plainGet_of hg).1 (PySem.W.findObj_own hh ha Z<|by rw[hl,hv]) yh h
theorem tu{Q:Unit->Shared->Prop}(X:K.In s.heap)(I:ObjM s.heap x dx C mA)
  (hs:PySem.W.findIn K (.ref C) "__setattr__"=some (some<|.builtin "object.__setattr__"))(hp:PySem.W.plainOver K C=true)(ht:PySem.W.takerIn K C name=some none)(hh:PySem.W.hasDictIn K C=true)
  (hw:PySem.Within mA ns)(hsz:ns.length<=sizeLine)
  (h:∀h',ObjM h' x dx C (λy=>if y=name then some v else mA y)->Heap.SameBut dx s.heap h'->Q () {s with heap:=h',toks:=s.toks+2}):
  wpAny (model prog w) A (setAttr (.ref x) name v) Q E s:=by
 obtain⟨od,AP,hl⟩:=I.look;refine PySem.W.set_plain X AP hs (PySem.W.osa_open (s:={s with toks:=s.toks+1}) (r:=none) X AP hp ht λb=>?_);obtain⟨cd,hc,Gw⟩:=PySem.W.any_some hh;have hx:s.heap.get? x=some ⟨.ref C,some dx,.plain,#[]⟩:=I.obj
 refine XU (Ym<|XU<|XU<|wpAny_loadPart hx<|XU<|PySem.W.Looks.here (s:={s with toks:=s.toks+1}) (PySem.W.looks_clsIn X hc) ?_);rw[Gw];refine Ym (a:=some dx) (XU<|Ym<|XU ?_);refine wpAny_nsSet1 (s:={s with toks:=s.toks+1}) I.ns λh' NJ To=>?_;obtain⟨oD,esD,epD,yg,fF,hcD⟩:=NJ.count (PySem.Within.cons name v hw);refine XU (wpAny_lookBehind yg (by rw[fF];exact pastItsLine_dict<|Yv hcD<|by rw[Yt];lia) ?_);exact Ym (h _ ⟨(To.2 _<|XI I.ne).trans I.obj,NJ,I.ne⟩ To)
theorem DY{R:Result->Shared->Prop}{vs:Ag}{kw:List (Str×Value)}(X:K.In s.heap)(hm:PySem.W.makesIn K C=true)
  (hi:PySem.W.findIn K (.ref C) "__init__"=some (some<|.ref f))(hf:PySem.W.typeIn K (.ref f)=some (.type "function"))
  (h:codeAny (model prog w) (A.under<|.builtin "type.__call__" ⟨.ref C::vs,kw⟩) (.call (.ref f) ⟨.ref (s.heap.objs.size+1)::vs,kw⟩) (PySem.W.InitBack (s.heap.objs.size+1) R)
   {s with heap:=(s.heap.push PySem.W.emptyDict).push (PySem.W.instObj C s.heap.objs.size)}):
  codeAny (model prog w) A (.call (.ref C) ⟨vs,kw⟩) R s:=by obtain⟨hh,g,d,t,os⟩:=s;exact PySem.W.make_core (PySem.W.makes_of X hm) (PySem.W.looks_findIn X hi) (λself=>PySem.W.bind_fn X self hf) (.inl Z) h
end
def XM(f:Str)(v:V):List (Str×V)->List (Str×V)
 |[]=>[(f,v)]
 | (g,x)::r=>if g=f then (g,v)::r else (g,x)::XM f v r
theorem DX(f g:Str)(v:V):∀fs:List (Str×V),(XM f v fs).lookup g=if g=f then some v else fs.lookup g
 |[]=>by
  show List.lookup g [(f,v)]=_;by_cases h:g=f
  .have hb:(g == f)=true:=VE.mpr h;simp only[List.lookup,hb,if_pos h]
  .have hb:(g == f)=false:=Fe.mpr h;simp only[List.lookup,hb,if_neg h]
 | (k,x)::r=>by
  have ih:=DX f g v r;rw[show XM f v ((k,x)::r)=(if k=f then (k,v)::r else (k,x)::XM f v r) from Z];by_cases hk:k=f
  .rw[if_pos hk];by_cases h:g=k
   .have hb:(g == k)=true:=VE.mpr h;simp only[List.lookup,hb,if_pos (h.trans hk)]
   .have hb:(g == k)=false:=Fe.mpr h;simp only[List.lookup,hb,if_neg λe:g=f=>h (e.trans hk.symm)]
  .rw[if_neg hk];by_cases h:g=k
   .have hb:(g == k)=true:=VE.mpr h;simp only[List.lookup,hb,if_neg λe:g=f=>hk (h.symm.trans e)]
   .have hb:(g == k)=false:=Fe.mpr h;simp only[List.lookup,hb];exact ih
theorem tm(f:Str)(v:V):∀fs:List (Str×V),f∈(XM f v fs).map (·.1)/\∀g,g∈fs.map (·.1)->g∈(XM f v fs).map (·.1)
 |[]=>⟨by simp[XM],λg h=>by simp at h⟩
 | (k,x)::r=>by
  obtain⟨i1,i2⟩:=tm f v r;rw[show XM f v ((k,x)::r)=(if k=f then (k,v)::r else (k,x)::XM f v r) from Z];by_cases hk:k=f
  .rw[if_pos hk];subst hk;exact⟨S,λg h=>by simpa using h⟩
  .rw[if_neg hk];refine⟨?_,λg h=>?_⟩
   .rw[UI];exact Yf _ i1
   .rw[UI]at h ⊢;rcases Yg.mp h with e|e
    .exact Yg.mpr (.inl e)
    .exact Yf _ (i2 g e)
theorem fE(f:Str)(v:V):∀fs:List (Str×V),(XM f v fs).length<=fs.length+1
 |[]=>by simp[XM]
 | (k,x)::r=>by
  have ih:=fE f v r;rw[show XM f v ((k,x)::r)=(if k=f then (k,v)::r else (k,x)::XM f v r) from Z];by_cases hk:k=f
  .rw[if_pos hk,Yt,Yt];lia
  .rw[if_neg hk,Yt,Yt];lia
theorem RelO.some_of{v:V}(r:RelO (some v) o):∃u,o=some u/\RelV v u:=by
 cases o with
 |none=>exact(show False from r).elim
 |some u=>exact⟨u,Z,r⟩
theorem tj(r:RelV v u):PySem.W.handedIn u=true:=by
 cases v with
 |non=>cases (show u=Value.none from r);rfl
 |bl b=>cases (show u=Value.bool b from r);rfl
 |int i=>obtain⟨t,e⟩:=(show ∃t,u=Value.int i t from r);cases e;rfl
 |str x=>obtain⟨t,e⟩:=(show ∃t,u=Value.str x t from r);cases e;rfl
 |byt b=>obtain⟨t,e⟩:=(show ∃t,u=Value.bytes b t from r);cases e;rfl
 |flt b=>obtain⟨t,e⟩:=(show ∃t,u=Value.float b t from r);cases e;rfl
 |ref a=>cases (show u=Value.ref a from r);rfl
 |ty n=>cases (show u=Value.type n from r);rfl
section
variable{P:Program}{w:World}{H:Hp}{h:Heap}{a C dx:Addr}{fs:List (Str×V)}
theorem fD(hok:HOk P w H h)(e:H a=some (.ins C dx fs)):∃mA,ObjM h a dx C mA/\(∀f,RelO (fs.lookup f) (mA f))/\PySem.Within mA (fs.map (·.1))/\fs.length<=1000/\H dx=some (.own a):=by obtain⟨d,z,ne,ob,mA,n,r,q⟩:=(show ObjOk P w H h a (.ins C dx fs) from hok a _ e);exact⟨mA,⟨ob,n,ne⟩,r,q,z,d⟩
end
structure Cls(K:Ad)(C:Addr):Prop where
 pg:PySem.W.plainGet K C Str.empty=true
 hd:PySem.W.hasDictIn K C=true
 po:PySem.W.plainOver K C=true
 sa:PySem.W.findIn K (.ref C) "__setattr__"=some (some<|.builtin "object.__setattr__")
theorem Cls.get{K:Ad}{C:Addr}(c:Cls K C)(f:Str):PySem.W.plainGet K C f=true:=c.pg
def NoAttr(K:Ad)(C:Addr)(f:Str):Prop:=PySem.W.findIn K (.ref C) f=some none
theorem NoAttr.taker{K:Ad}{C:Addr}{f:Str}(n:NoAttr K C f):PySem.W.takerIn K C f=some none:=by unfold PySem.W.takerIn;rw[show PySem.W.findIn K (.ref C) f=some none from n];rfl
section
variable{X:Cx}{pins:List (Addr×Obj)}{σ:St}{H:Hp}{s:Shared}{a C dx:Addr}{fs:List (Str×V)}{f:Str}{v:V}{A:Around}{E:Ae}
theorem Zw7{Q:Ae}(I:Inv X pins σ H s)(e:H a=some (.ins C dx fs))(c:Cls X.K C)(n:NoAttr X.K C f)(l:fs.lookup f=some v)
  (h:∀u s',Inv X pins σ H s'->RelV v u->Q u s'):wpAny (model X.prog X.w) A (getAttr (.ref a) f b) Q E s:=by obtain⟨mA,O,r,_,_,_⟩:=fD I.hok e;obtain⟨u,hu,ru⟩:=RelO.some_of (v:=v) (o:=mA f) (by rw[<-l];exact r f);exact tw I.kIn O (c.get f) c.hd n hu (tj ru) (h u _ (I.tok _) ru)
theorem ZF6{Q:Unit->Shared->Prop}(I:Inv X pins σ H s)(e:H a=some (.ins C dx fs))(c:Cls X.K C)(n:NoAttr X.K C f)(hl:fs.length<1000)(ry:RelV y u)
  (h:∀s',Inv X pins σ (upd H a<|.ins C dx<|XM f y fs) s'->Q () s'):wpAny (model X.prog X.w) A (setAttr (.ref a) f u) Q E s:=by
 obtain⟨mA,O,r,wi,_,ho⟩:=fD I.hok e;have hz:(fs.map (·.1)).length<=sizeLine:=by rw[Yb,TF];lia
 refine tu I.kIn O c.sa c.po n.taker c.hd wi hz λh' O' sb=>h _ ?_;have hd:∃o,h'.get? dx=some o:=by obtain⟨o,_,_,e',_⟩:=O'.ns;exact⟨o,e'⟩
 refine I.write (x:=a) (e:=dx) (by rw[e];exact True.intro) (.inr ho) (λb q hb z=>(sb.2 b hb).trans z) hd ?_;refine⟨by rw[Zb O.ne];exact ho,?_,O.ne,O'.obj,_,O'.ns,λg=>?_,λg hg=>?_⟩
 .have:=fE f y fs;lia
 .show RelO ((XM f y fs).lookup g) (if g=f then some u else mA g);rw[DX];by_cases q:g=f
  .rw[if_pos q,if_pos q];exact ry
  .rw[if_neg q,if_neg q];exact r g
 .by_cases q:g=f
  .rw[q];exact(tm f y fs).1
  .refine(tm f y fs).2 g (wi g λz=>hg ?_);show(if g=f then some u else mA g)=none
   rwa[if_neg q]
theorem Inv.made(I:Inv X pins σ H s):Inv X pins σ (upd (upd H s.heap.objs.size (.own (s.heap.objs.size+1))) (s.heap.objs.size+1) (.ins C s.heap.objs.size []))
  {s with heap:=(s.heap.push PySem.W.emptyDict).push (PySem.W.instObj C s.heap.objs.size)}:=by
 have e1:(s.heap.push PySem.W.emptyDict).get? s.heap.objs.size=some PySem.W.emptyDict:=Yk s.heap rfl;have e2:((s.heap.push PySem.W.emptyDict).push (PySem.W.instObj C s.heap.objs.size)).get? (s.heap.objs.size+1)=some (PySem.W.instObj C s.heap.objs.size):=by
  have:=Yk (s.heap.push PySem.W.emptyDict) (o:=PySem.W.instObj C s.heap.objs.size) rfl
  rwa[UH]at this
 have e3:(s.heap.push PySem.W.emptyDict).Ns s.heap.objs.size (λ_=>none):=⟨PySem.W.emptyDict,#[],_,e1,Z,λe he=>absurd he S,λ_=>rfl⟩;have I1:=I.laid (a:=s.heap.objs.size) (o:=.own<|s.heap.objs.size+1) (h':=s.heap.push PySem.W.emptyDict) (t':=s.toks) (λb u q=>Xc _ q) (XJ _) ⟨_,e1⟩
 refine I1.laid (a:=s.heap.objs.size+1) (o:=.ins C s.heap.objs.size []) (t':=s.toks) (λb u q=>Xc _ q) (Nat.le_of_eq<|UH _ _) ?_;have ne:s.heap.objs.size≠s.heap.objs.size+1:=YB (NO _)
 refine⟨by rw[Zb ne,XS],Yj _,ne,e2,λ_=>none,(Heap.Ns1.of_empty e3).at λo q=>Xc _ q,λ_=>True.intro,λy hy=>absurd Z hy⟩
theorem tf{pos:Pos}{Q:Ae}(hb:attributeBase e f env (eval e env)=eval e env)
  (h:wpAny (model prog w) A (eval e env) (λo s₁=>wpAny (model prog w) A (getAttr o f true) Q E s₁) E s):wpAny (model prog w) A (eval (.Attribute e f pos) env) Q E s:=
 Attribute_any_ h (by rw[arm_eval_Attribute,hb])
end
def DW(K:Ad)(ta:TE)(f:Str):TE:=λσ H Q=>ta σ H λx H1=>∃a C dx fs v,x=.ref a/\H1 a=some (.ins C dx fs)/\Cls K C/\NoAttr K C f/\fs.lookup f=some v/\Q v H1
def td(K:Ad)(ta tv:TE)(f:Str):TS:=λD σ H=>tv σ H λy H1=>ta σ H1 λx H2=>∃a C dx fs,x=.ref a/\H2 a=some (.ins C dx fs)/\Cls K C/\NoAttr K C f/\fs.length<1000/\
 D.nx σ (upd H2 a<|.ins C dx<|XM f y fs)
section
variable{X:Cx}{o e value:Expr}{f:Str}{pos pos':Pos}{ta tv:TE}
theorem sZ(he:PE X e ta)(hb:attributeBase e f X.env (eval e X.env)=eval e X.env):PE X (.Attribute e f pos) (DW X.K ta f):=by intro pins s σ H Q I h;refine tf hb (thn (he pins s σ H _ I h) λu s1 Xv=>?_);obtain⟨x,H1,I1,rx,a,C,dx,fs,v,ex,ea,c,n,l,q⟩:=Xv;subst ex;obtain rfl:u=Value.ref a:=rx;exact Zw7 I1 ea c n l λu' s2 I2 ru=>⟨v,H1,I2,ru,q⟩
theorem MO(ha:PE X o ta)(hv:PE X value tv)(hs:swapsWith value (some (.Attribute o f pos')) pos.line X.env=pure false):PS X (.Assign [.Attribute o f pos'] value pos) (td X.K ta tv f):=by intro pins s σ H D I h;refine plainObj_wpAny_Assign_Attribute (thn (hv pins s σ H _ I h) λu s1 zz=>?_) hs;obtain⟨y,H1,I1,ry,q⟩:=zz;refine thn (ha pins s1 σ H1 _ I1 q) λov s2 Xv=>?_;obtain⟨x,H2,I2,rx,a,C,dx,fs,ex,ea,c,n,l,q2⟩:=Xv;subst ex;obtain rfl:ov=Value.ref a:=rx;exact ZF6 I2 ea c n l ry λs3 I3=>⟨σ,_,I3,q2⟩
end
structure Room(k:Nat)(A:Around):Prop where
 hd:A.handled=none
 dp:A.depth+3*k+5<recursionLimit
 un:A.units+16*k+200<cLine
theorem Room.mono(r:Room k A)(h:j<=k):Room j A:=⟨r.hd,by have:=r.dp;lia,by have:=r.un;lia⟩
theorem Room.deeper(r:Room (k+1) A)(env:Env):Room k (A.deeper env):=
 ⟨r.hd,by have:=r.dp;show A.depth+1+3*k+5<_;lia,by have:=r.un;show A.units+3+16*k+200<_;lia⟩
theorem Room.in1(r:Room (k+1) A):Room k A.in1:=
 ⟨r.hd,by have:=r.dp;show A.depth+3*k+5<_;lia,by have:=r.un;show A.units+1+16*k+200<_;lia⟩
theorem Zc7{A:Around}{C:Addr}{us:Ag}{kw:List (Str×Value)}:(A.under (.builtin "type.__call__" ⟨.ref C::us,kw⟩)).depth=A.depth+1:=by
 first|rfl|simp[Around.under,Code.weight,Code.isCreation,Code.isGuard,Code.isCaller,Code.frames,Code.isFrame,guardIds]
theorem Zb7{A:Around}{C:Addr}{us:Ag}{kw:List (Str×Value)}:(A.under (.builtin "type.__call__" ⟨.ref C::us,kw⟩)).units=A.units+1:=by
 first|rfl|simp[Around.under,Code.cUnits,Code.frames,Code.isFrame]
theorem Room.make(r:Room (k+1) A)(C:Addr)(us:Ag)(kw:List (Str×Value)):Room k (A.under (.builtin "type.__call__" ⟨.ref C::us,kw⟩)):=
 ⟨r.hd,by have:=r.dp;rw[Zc7];lia,by have:=r.un;rw[Zb7];lia⟩
theorem Room.depth(r:Room k A):A.depth<recursionLimit:=by have:=r.dp;lia
theorem Room.units(r:Room k A):A.units+64<cLine:=by have:=r.un;lia
def Jn:TA:=λ_ H Q=>Q [] H
def Jm(ta:TE)(tr:TA):TA:=λσ H Q=>ta σ H λx H1=>tr σ H1 λxs H2=>Q (x::xs) H2
section
variable{X:Cx}{e:Expr}{es:List Expr}{te:TE}{t:TA}{pos:Pos}
theorem XW:PA X [] Jn:=λ_ _ _ _ H Q I h=>uR ⟨[],H,I,.nil,h⟩
theorem XY(ha:PE X e te)(hr:PA X es t)(hs:starEach (e::es) X.env=(false,eval e X.env)::starEach es X.env:=by rfl):PA X (e::es) (Jm te t):=by
 intro pos pins s σ H Q I h;rw[hs];show wpAny _ _ (spliced<|(false,eval e X.env)::backTo pos (starEach es X.env)) _ _ s
 refine uY (thn (ha pins s σ H _ I h) λu s1 Xv=>?_);obtain⟨x,H1,I1,r1,q1⟩:=Xv;exact thn (hr pos pins s1 σ H1 _ I1 q1) λus s2 zz=>by obtain⟨xs,H2,I2,r2,q2⟩:=zz;exact⟨x::xs,H2,I2,.cons r1 r2,q2⟩
def sY(t:TA):TE:=λσ H Q=>t σ H λxs H1=>xs.length<=sizeLine/\∀p,H1 p=none->Q (.ref p) (upd H1 p<|.tup xs)
def sX(t:TA):TE:=λσ H Q=>t σ H λxs H1=>xs.length<=sizeLine/\∀p,H1 p=none->Q (.ref p) (upd H1 p<|.lst xs)
theorem WN{x1}(h:PA X es t):PE X (.Tuple es x1 pos) (sY t):=by
 intro pins s σ H Q I hq;refine wpAny_Tuple_spliced (thn (h pos pins s σ H _ I hq) λus s1 ⟨xs,H1,I1,r,z,q⟩=>⟨by rw[<-r.length];exact z,?_⟩);have hf:H1 s1.heap.objs.size=none:=I1.hok.fresh (XJ _)
 refine⟨.ref s1.heap.objs.size,upd H1 s1.heap.objs.size<|.tup xs,I1.laid (t':=s1.toks) (λb u e=>Xc _ e) (XJ _) ?_,Z,q _ hf⟩;exact⟨z,us,r,⟨_,Yk _ Z,Z,_,Z⟩⟩
theorem ZZ(h:PA X es t):PE X (.List es pos) (sX t):=by
 intro pins s σ H Q I hq;refine wpAny_List_spliced (thn (h pos pins s σ H _ I hq) λus s1 ⟨xs,H1,I1,r,z,q⟩=>⟨by rw[<-r.length];exact z,?_⟩);have hf:H1 s1.heap.objs.size=none:=I1.hok.fresh (XJ _)
 refine⟨.ref s1.heap.objs.size,upd H1 s1.heap.objs.size<|.lst xs,I1.laid (t':=s1.toks) (λb u e=>Xc _ e) (XJ _) ?_,Z,q _ hf⟩;exact⟨z,us,0,r,Yk _ Z⟩
end
abbrev Sp:=List V->Hp->VK->XK->Prop
abbrev Qn:=List Env->Hp->Shared->XK->Ae
structure Env0(P:Program)(w:World)(K:Ad)(mg:Af)(base:Heap)(A:Around)(outer:List Env)(s:Shared)(H:Hp):Prop where
 frames:A.frames=some outer
 mod:Mod K mg base
 bs:∀b o,base.get? b=some o->s.heap.get? b=some o/\H b=none
 bsz:base.objs.size<=s.heap.objs.size
 funs:s.heap.FunFrames base outer
 frf:∀b∈TB outer,H b=none
 hok:HOk P w H s.heap
 bare:AllBare s.gens
def CE(outer:List Env)(P:Program)(w:World)(H:Hp)(s:Shared)(Q:VK)(u:Value)(s':Shared):Prop:=
 ∃v H',s'.os=s.os/\AllBare s'.gens/\Un (TB outer) [] H H' s.heap s'.heap/\HOk P w H' s'.heap/\RelV v u/\Q v H'
def CR(CX:Qn)(outer:List Env)(P:Program)(w:World)(H:Hp)(s:Shared)(Q:VK)(E:XK)(r:Result)(s':Shared):Prop:=
 match r with
 | .ok (.ret u)=>CE outer P w H s Q u s'
 | .ok _=>False
 | .error e=>CX outer H s E e s'
structure FnOk(P:Program)(w:World)(K:Ad)(mg:Af)(base:Heap)(CX:Qn)(k:Nat)(f:Addr)(fd:FuncData)(ps:List Str)(sp:Sp):Prop where
 len:∀vs H Q E,sp vs H Q E->vs.length=ps.length
 run:∀(A:Around)(outer:List Env)(s:Shared)(H:Hp)(args:Args)(us:Ag)(vs:List V)(Q:VK)(E:XK),Room k A->Env0 P w K mg base A outer s H->BindsTo s fd args (ps.zip us)->Vals vs us->sp vs H Q E->
  codeAny (model P w) A (.call (.ref f) args) (CR CX outer P w H s Q E) s
theorem Env0.make{P:Program}{w:World}{K:Ad}{mg:Af}{base:Heap}{A:Around}{outer:List Env}{s:Shared}{H:Hp}(e:Env0 P w K mg base A outer s H)(C:Addr)(us:Ag)(kw:List (Str×Value)):
  Env0 P w K mg base (A.under<|.builtin "type.__call__" ⟨.ref C::us,kw⟩) outer s H:=⟨by first|exact e.frames|(simpa[Around.under,Code.envs,Code.isFrame,pushEnvs] using e.frames),e.mod,e.bs,e.bsz,e.funs,e.frf,e.hok,e.bare⟩
theorem Env0.in1{P:Program}{w:World}{K:Ad}{mg:Af}{base:Heap}{A:Around}{outer:List Env}{s:Shared}{H:Hp}(e:Env0 P w K mg base A outer s H):
  Env0 P w K mg base A.in1 outer s H:=⟨e.frames,e.mod,e.bs,e.bsz,e.funs,e.frf,e.hok,e.bare⟩
section
variable{X:Cx}{pins:List (Addr×Obj)}{σ:St}{H:Hp}{s s':Shared}
theorem Inv.env0(I:Inv X pins σ H s):Env0 X.prog X.w X.K X.mg X.base X.A X.stack s H:=
 ⟨I.ok.frames,I.ok.mod,I.bs,Yv I.ok.bsz I.sz,I.stack,I.stkFree,I.hok,I.bare⟩
theorem Inv.after(I:Inv X pins σ H s)(h:CE X.stack X.prog X.w H s Q u s'):EP X pins σ Q u s':=by obtain⟨v,H',os,bare,un,hok,r,q⟩:=h;obtain⟨hh,g,d,t,sW⟩:=s';obtain rfl:sW=s.os:=os;exact⟨v,H',I.call (h':=hh) (g':=g) (d':=d) (t':=t) (ch:=[]) un hok bare λb z=>absurd z S,r,q⟩
end
def DV(sp:Sp)(Sm:List V)(E:XK)(t:TA):TE:=λσ H Q=>t σ H λvs H1=>sp (vs++Sm) H1 Q E
def sV(C:Addr)(sp:Sp)(Sm:List V)(E:XK)(t:TA):TE:=λσ H Q=>t σ H λvs H1=>∀x dx,H1 x=none->H1 dx=none->dx≠x->
 sp (.ref x::(vs++Sm)) (upd (upd H1 dx<|.own x) x<|.ins C dx []) (λv H2=>v=.non/\Q (.ref x) H2) E
def Binds(K:Ad)(fd:FuncData)(ps:List Str)(ds:Ag):Prop:=
 ∀(s:Shared)(us:Ag),K.In s.heap->(us++ds).length=ps.length->BindsTo s fd ⟨us,[]⟩ (ps.zip<|us++ds)
theorem Binds.all{K:Ad}{fd:FuncData}{ps:List Str}(h:∀us:Ag,us.length=ps.length->bindArgs fd ⟨us,[]⟩=pure (ps.zip us)):Binds K fd ps []:=λs us _ hl=>by rw[YI]at hl ⊢;exact .of_eq (h us hl)
def Gr(CX:Qn)(X:Cx)(E:XK):Prop:=∀(pins:List (Addr×Obj))(σ:St)(H:Hp)(s:Shared)(e:Value)(s':Shared),Inv X pins σ H s->CX X.stack H s E e s'->X.xe e s'
section
variable{X:Cx}{CX:Qn}{k:Nat}{f C:Addr}{fd:FuncData}{ps:List Str}{sp:Sp}{Sm:List V}{ds:Ag}{E:XK}{x:Str}{p pos:Pos}{e:Expr}{es:List Expr}{t:TA}
theorem sU(F:FnOk X.prog X.w X.K X.mg X.base CX k f fd ps sp)(hr:Room k X.A)(hb:Binds X.K fd ps ds)(hd:Vals Sm ds)(hx:Gr CX X E)
  (I:Inv X pins σ H s)(r:Vals vs us)(h:sp (vs++Sm) H Q E):wpAny (model X.prog X.w) X.A (call (.ref f) us) (EP X pins σ Q) X.xe s:=by
 have r2:Vals (vs++Sm) (us++ds):=r.append hd;have hl:(us++ds).length=ps.length:=by rw[<-r2.length];exact F.len _ _ _ _ h
 refine EF (Ly (F.run X.A X.stack s H ⟨us,[]⟩ (us++ds) (vs++Sm) Q E hr I.env0 (hb s us I.kIn hl) r2 h) λr s' hq=>?_);cases r with
 |error e=>exact hx pins σ H s e s' I hq
 |ok fl=>
  cases fl with
  |ret u=>exact I.after hq
  |next=>exact False.elim hq
  |brk=>exact False.elim hq
  |cont=>exact False.elim hq
theorem QY(F:FnOk X.prog X.w X.K X.mg X.base CX k f fd ps sp)(hr:Room k X.A)(hg:Gl X x)(hm:X.mg x=some (.ref f))(hk:PySem.W.keepIn X.K (.ref f)=true)(hb:Binds X.K fd ps ds)(hd:Vals Sm ds)(hx:Gr CX X E)
  (ha:PA X (e::es) t)(Sl:(x == ("__debug__":Str))=false:=by decide)(he:starEach (e::es) X.env=(false,eval e X.env)::starEach es X.env:=by rfl)(UL:(backTo pos<|starEach es X.env).any (·.1)=false:=by rfl):
  PE X (.Call (.Name x p) (e::es) [] pos) (DV sp Sm E t):=by intro pins s σ H Q I h;refine NP (ui I hg hm ?_ Sl);refine PySem.W.callWith_K (h₀:=X.base) I.ok.mod.kin hk (thn (ha pos pins s σ H _ I h) λus s1 ⟨vs,H1,I1,r,q⟩=>⟨I1.kIn,?_⟩) he UL;exact sU F hr hb hd hx I1 r q
structure Mk(K:Ad)(C f:Addr):Prop where
 makes:PySem.W.makesIn K C=true
 init:PySem.W.findIn K (.ref C) "__init__"=some (some<|.ref f)
 fn:PySem.W.isFn K (.ref f)=true
 kp:PySem.W.keepIn K (.ref C)=true
theorem sT(M:Mk X.K C f)(F:FnOk X.prog X.w X.K X.mg X.base CX k f fd ps sp)(hr:Room (k+1) X.A)(hb:Binds X.K fd ps ds)(hd:Vals Sm ds)
  (hx:Gr CX X E)(I:Inv X pins σ H s)(r:Vals vs us)
  (h:∀x dx,H x=none->H dx=none->dx≠x->sp (.ref x::(vs++Sm)) (upd (upd H dx<|.own x) x<|.ins C dx []) (λv H2=>v=.non/\Q (.ref x) H2) E):
  wpAny (model X.prog X.w) X.A (call (.ref C) us) (EP X pins σ Q) X.xe s:=by
 have hq:=h (s.heap.objs.size+1) s.heap.objs.size (I.hok.fresh<|TH _) (I.hok.fresh<|XJ _) (YB<|NO _);have I2:=Inv.made (C:=C) I
 have r2:Vals (V.ref (s.heap.objs.size+1)::(vs++Sm)) (Value.ref (s.heap.objs.size+1)::(us++ds)):=.cons Z (r.append hd);have hl:(Value.ref (s.heap.objs.size+1)::us++ds).length=ps.length:=by have e:=r2.length;rw[F.len _ _ _ _ hq]at e;exact e.symm
 refine EF (DY (f:=f) I.kIn M.makes M.init (VE.mp M.fn) (Ly (F.run _ X.stack _ _ ⟨Value.ref (s.heap.objs.size+1)::us,[]⟩ (Value.ref (s.heap.objs.size+1)::(us++ds)) _ _ E (hr.make C us [])
  (I2.env0.make C us []) (hb _ (Value.ref (s.heap.objs.size+1)::us) I2.kIn hl) r2 hq) λr s' DU=>?_))
 cases r with
 |error e=>exact hx pins σ _ _ e s' I2 DU
 |ok fl=>
  cases fl with
  |ret u=>
   obtain⟨v,H',I3,rv,ev,q3⟩:=I2.after DU;subst ev;exact⟨rv,⟨V.ref<|s.heap.objs.size+1,H',I3,Z,q3⟩⟩
  |next=>exact False.elim DU
  |brk=>exact False.elim DU
  |cont=>exact False.elim DU
theorem Pr(M:Mk X.K C f)(F:FnOk X.prog X.w X.K X.mg X.base CX k f fd ps sp)(hr:Room (k+1) X.A)(hg:Gl X x)(hm:X.mg x=some (.ref C))(hb:Binds X.K fd ps ds)(hd:Vals Sm ds)(hx:Gr CX X E)
  (ha:PA X (e::es) t)(Sl:(x == ("__debug__":Str))=false:=by decide)(he:starEach (e::es) X.env=(false,eval e X.env)::starEach es X.env:=by rfl)(UL:(backTo pos<|starEach es X.env).any (·.1)=false:=by rfl):
  PE X (.Call (.Name x p) (e::es) [] pos) (sV C sp Sm E t):=by intro pins s σ H Q I h;refine NP (ui I hg hm ?_ Sl);refine PySem.W.callWith_K (h₀:=X.base) I.ok.mod.kin M.kp (thn (ha pos pins s σ H _ I h) λus s1 ⟨vs,H1,I1,r,q⟩=>⟨I1.kIn,?_⟩) he UL;exact sT M F hr hb hd hx I1 r q
end
structure FnScope(N P:List Str)(sc:Scope):Prop where
 kind:sc.kind=.function
 co:sc.isCoroutine=false
 gen:sc.isGenerator=false
 nd:N.Nodup
 pre:N.take P.length=P
 par:∀x∈P,sc.names.lookup x=some .local\/sc.names.lookup x=some .cell
 nofree:∀y∈sc.names,y.2≠.free
theorem fC{kindOf:Str->Option NameKind}:∀{binds:List (Str×Value)}{m:Af},(∀v,(x,v)∉binds)->bindL kindOf binds m x=m x
 |[],_,_=>rfl
 | (n,v)::r,m,h=>by
  unfold bindL;rw[fC λw hw=>h w (Yf _ hw)];split
  .have:x≠n:=by rintro rfl;exact h v Xd
   simp[this]
  .rfl
theorem fB{kindOf:Str->Option NameKind}:∀{binds:List (Str×Value)}{m:Af},(∀v,(x,v)∉binds)->bindC kindOf binds m x=m x
 |[],_,_=>rfl
 | (n,v)::r,m,h=>by
  unfold bindC;rw[fB λw hw=>h w (Yf _ hw)];split
  .rfl
  .have:x≠n:=by rintro rfl;exact h v Xd
   simp[this]
theorem fw{kindOf:Str->Option NameKind}{x:Str}{v:Value}:∀{P:List Str}{vs:Ag}{i:Nat}{m:Af},P.Nodup->P[i]?=some x->vs[i]?=some v->kindOf x=some .local->
  bindL kindOf (P.zip vs) m x=some v
 |[],_,_,_,_,h,_,_=>by simp at h
 |_::_,[],_,_,_,_,h,_=>by simp at h
 |p::P,w::vs,0,m,nd,h1,h2,hk=>by
  simp at h1 h2;subst h1;subst h2;show bindL kindOf ((p,w)::P.zip vs) m p=_
  unfold bindL;rw[fC λv hv=>(RQ.mp nd).1 (vd hv).1,if_pos hk];simp
 |p::P,w::vs,i+1,m,nd,h1,h2,hk=>by show bindL kindOf ((p,w)::P.zip vs) m x=_;unfold bindL;exact fw (i:=i) (RQ.mp nd).2 (by simpa using h1) (by simpa using h2) hk
theorem fv{kindOf:Str->Option NameKind}{x:Str}{v:Value}:∀{P:List Str}{vs:Ag}{i:Nat}{m:Af},P.Nodup->P[i]?=some x->vs[i]?=some v->kindOf x≠some .local->
  bindC kindOf (P.zip vs) m x=some v
 |[],_,_,_,_,h,_,_=>by simp at h
 |_::_,[],_,_,_,_,h,_=>by simp at h
 |p::P,w::vs,0,m,nd,h1,h2,hk=>by
  simp at h1 h2;subst h1;subst h2;show bindC kindOf ((p,w)::P.zip vs) m p=_
  unfold bindC;rw[fB λv hv=>(RQ.mp nd).1 (vd hv).1,if_neg hk];simp
 |p::P,w::vs,i+1,m,nd,h1,h2,hk=>by show bindC kindOf ((p,w)::P.zip vs) m x=_;unfold bindC;exact fv (i:=i) (RQ.mp nd).2 (by simpa using h1) (by simpa using h2) hk
def start(N:List Str)(vs:List V):St:=vs.map some++List.replicate (N.length-vs.length) none
def Ua(CX:Qn)(P:Program)(w:World)(K:Ad)(mg:Af)(base:Heap)(N:List Str)(qual:Str)(scope:Scope)(f:Addr)(cd:Value)(A:Around)(outer:List Env)(s:Shared)(H:Hp)(E:XK):Cx where
 prog:=P
 w:=w
 K:=K
 mg:=mg
 base:=base
 A:=A.deeper (envOfC qual scope s.heap.objs.size f cd)
 N:=N
 s₀:=s
 H₀:=H
 env:=envOfC qual scope s.heap.objs.size f cd
 outer:=outer
 stack:=envOfC qual scope s.heap.objs.size f cd::outer
 ex:=[]
 calm:=true
 fn:=λ_=>true
 pn:=[]
 xe:=λe s'=>wpAny (model P w) (A.deeper<|envOfC qual scope s.heap.objs.size f cd) (leaving (envOfC qual scope s.heap.objs.size f cd) e) (λ_ SG=>CX outer H s E e SG) (λe' SG=>CX outer H s E e' SG) s'
theorem DT{sc:Scope}(h:sc.names.lookup x=some .cell):∃c,(cellsFrom n sc.names []).lookup x=some c:=by have q:=gf sc.names n [] (.inl h);exact JJ.mp q
theorem ZX8{CX:Qn}{P:Program}{w:World}{K:Ad}{mg:Af}{base:Heap}{N ps:List Str}{qual:Str}{scope:Scope}{f:Addr}{cd:Value}{A:Around}{outer:List Env}{s s1:Shared}{H:Hp}{E:XK}{us:Ag}{vs:List V}
  (uz:FnScope N ps scope)(hd:A.handled=none)(e0:Env0 P w K mg base A outer s H)(hl:vs.length=ps.length)(r:Vals vs us)
  (x:InCallC s s.heap.objs.size (bindL (envOfC qual scope s.heap.objs.size f cd).kindOf (ps.zip us) λ_=>none) (cellsFrom (s.heap.objs.size+1) scope.names []) (bindC (envOfC qual scope s.heap.objs.size f cd).kindOf (ps.zip us) λ_=>none) s1):
  Inv (Ua CX P w K mg base N qual scope f cd A outer s H E) [] (start N vs) H s1:=by
 have UL:ps.length<=N.length:=by have:=Xy List.length uz.pre;rw[Yn]at this;lia
 obtain⟨h1,tk,rfl,hk⟩:=x.done;have Jl:∀b:Addr,b∉(Ua CX P w K mg base N qual scope f cd A outer s H E).ex:=λb z=>absurd (show b∈([]:List Addr) from z) S
 refine⟨⟨e0.mod,uz.kind,Z,Z,XJ _,λy z c h1 h2=>?_,λy hy=>?_,λy c _ h=>?_,λ_=>hd,Around.frames_deeper e0.frames,.inr ⟨Z,Z⟩,λb z=>absurd z<|Jl b,e0.bs,e0.bsz,λb _ _=>Jl b,λb z=>absurd z<|Jl b,e0.funs,e0.frf⟩,
  rfl,e0.bare,Un.kept hk,⟨_,x.toInCall.ns,λi y v h1 h2 h3=>?_⟩,λy c h=>⟨_,x.cell y c h⟩,e0.hok.fresh<|XJ _,λy c h=>?_,λp hp=>absurd (show p∈([]:List (Addr×Obj)) from hp) S,e0.hok.kept hk,?_⟩
 .exact name_of_addr x.apart (JY h1) (JY h2)
 .have hy:scope.names.lookup y=some .cell\/scope.names.lookup y=some .free:=hy;rcases hy with hy|hy
  .exact DT hy
  .exact absurd Z (uz.nofree _<|JY hy)
 .exact Nb (x.above y c<|JY h)
 .have hi:i<vs.length:=by
   unfold start at h2;by_cases hi:i<vs.length
   .exact hi
   .rw[Yo (by simpa using hi)]at h2;rw[y8]at h2;split at h2<;>cases h2
  have ha:vs[i]?=some v:=by
   unfold start at h2;rw[Ys (by simpa using hi),Yl]at h2;cases e:vs[i]? with
   |none=>rw[e]at h2;cases h2
   |some a=>rw[e]at h2;cases h2;rfl
  obtain⟨u,hu,rv⟩:=r.get ha;have hp:ps[i]?=some y:=by rwa[<-uz.pre,gq J]
  have ft:ps.Nodup:=by rw[<-uz.pre];exact uz.nd.sublist (List.take_sublist _ _)
  refine⟨u,rv,?_⟩;rcases uz.par y (Xi hp) with k|k
  .exact .inl ⟨k,fw ft hp hu k⟩
  .obtain⟨c,e⟩:=DT (n:=s.heap.objs.size+1) k;refine .inr ⟨.inl k,c,e,?_⟩;have q:=x.cell y c e
   rwa[fv ft hp hu (by show scope.names.lookup y≠_;rw[k];decide)]at q
 .exact e0.hok.fresh (Nb<|x.above y c<|JY h)
 .unfold start;show _=N.length
  rw[Xu,Yb,YN];grind
theorem Lj{CX:Qn}{P:Program}{w:World}{K:Ad}{mg:Af}{base:Heap}{k:Nat}{f:Addr}{name qual:Str}{params:Arguments}{body:List Stmt}{scope:Scope}{dV kV doc pm XC ct oc:Value}{an od:Option Addr}
  {Tz:Array (Option Value)}{N ps:List Str}{sp:Sp}(lk:K.lookup f=some ⟨oc,od,.func<|PySem.W.fnOf name qual params body scope dV kV doc pm an XC ct,Tz⟩)(SJ:PySem.W.codeIn K XC qual=true)(uz:FnScope N ps scope)
  (len:∀vs H Q E,sp vs H Q E->vs.length=ps.length)
  (VV:∀(A:Around)(outer:List Env)(s:Shared)(H:Hp)(vs:List V)(Q:VK)(E:XK),Room k (A.deeper<|envOfC qual scope s.heap.objs.size f XC)->sp vs H Q E->
   ∃t,PSs (Ua CX P w K mg base N qual scope f XC A outer s H E) body t/\t {nx:=λ_ H'=>Q .non H',rt:=Q} (start N vs) H):
  FnOk P w K mg base CX (k+1) f (PySem.W.fnOf name qual params body scope dV kV doc pm an XC ct) ps sp:=by
 refine⟨len,λA outer s H args us vs Q E hr e0 hb r UB=>?_⟩;have hl:=len _ _ _ _ UB
 have KX:K.In s.heap:=e0.mod.kin.keeps λb o e=>(e0.bs b o e).1;have lim:s.heap.NoLimit:=e0.mod.nolimit.keeps λb o e=>(e0.bs b o e).1
 have DS:∀y∈ps.zip us,scope.names.lookup y.1=some .local\/(scope.names.lookup y.1=some .cell/\((cellsFrom (s.heap.objs.size+1) scope.names []).lookup y.1).isSome=true):=λ⟨n,v⟩ hy=>by
  rcases uz.par n (vd hy).1 with q|q
  .exact .inl q
  .exact .inr ⟨q,gf _ _ _<|.inl q⟩
 refine codeAny_call_function hr.depth (KX _ _ lk) Z uz.co uz.gen Z (PySem.W.codeRec_of KX SJ) (hb _ _ _ _ ?_);refine wpAny_newFunctionEnv_cells uz.kind DS λenv he s1 x=>?_;subst he;refine⟨lim.keeps x.toInCall.keep,codeAny_func ?_⟩;obtain⟨t,ht,hq⟩:=VV A outer s H vs Q E (hr.deeper _) UB;have I:Inv (Ua CX P w K mg base N qual scope f XC A outer s H E) [] (start N vs) H s1:=ZX8 uz hr.hd e0 hl r x
 refine SK (ht [] s1 (start N vs) H _ I hq) (λfl s' hs=>?_) λe s' hs=>hs;have fin:∀{σ':St}{H':Hp}{v:V}{u:Value},Inv (Ua CX P w K mg base N qual scope f XC A outer s H E) [] σ' H' s'->RelV v u->Q v H'->CE outer P w H s Q u s':=
  λ{σ' H' v u} AP rv q=>⟨v,H',AP.os,AP.bare,AP.base,AP.hok,rv,q⟩
 cases fl with
 |ret u=>
  obtain⟨v,σ',H',AP,rv,q⟩:=hs;exact fin AP rv q
 |next=>
  obtain⟨σ',H',AP,q⟩:=hs;exact fin (v:=V.non) (u:=Value.none) AP Z q
 |brk=>
  obtain⟨_,_,_,q⟩:=hs;exact False.elim q
 |cont=>
  obtain⟨_,_,_,q⟩:=hs;exact False.elim q
section
variable{X:Cx}{x:Str}{p pos:Pos}{e:Expr}{es:List Expr}{t:TA}{id T:String}{r:List V->Hp->VK->Prop}
def fq(r:List V->Hp->VK->Prop)(t:TA):TE:=λσ H Q=>t σ H λvs H1=>r vs H1 Q
theorem Zd(hc:Vx X (.builtin id) r)(hg:Gl X x)(hm:X.mg x=none)(hv:bootBuiltins x=some (.builtin id))(ha:PA X (e::es) t)(hn:x≠"__name__":=by decide)(Sl:(x == ("__debug__":Str))=false:=by decide)
  (he:starEach (e::es) X.env=(false,eval e X.env)::starEach es X.env:=by rfl)(UL:(backTo pos<|starEach es X.env).any (·.1)=false:=by rfl):PE X (.Call (.Name x p) (e::es) [] pos) (fq r t):=by intro pins s σ H Q I h;refine NP (Ra I hg hm hv ?_ hn Sl);exact gF (thn (ha pos pins s σ H _ I h) λus s1 zz=>by obtain⟨vs,H1,I1,r1,q1⟩:=zz;exact hc pins s1 σ H1 vs us Q I1 r1 q1) he UL
theorem Zj(hc:Vx X (.type T) r)(hg:Gl X x)(hm:X.mg x=none)(hv:bootBuiltins x=some (.type T))(ha:PA X (e::es) t)(hn:x≠"__name__":=by decide)(Sl:(x == ("__debug__":Str))=false:=by decide)
  (he:starEach (e::es) X.env=(false,eval e X.env)::starEach es X.env:=by rfl)(UL:(backTo pos<|starEach es X.env).any (·.1)=false:=by rfl):PE X (.Call (.Name x p) (e::es) [] pos) (fq r t):=by intro pins s σ H Q I h;refine NP (Ra I hg hm hv ?_ hn Sl);exact Ug (thn (ha pos pins s σ H _ I h) λus s1 zz=>by obtain⟨vs,H1,I1,r1,q1⟩:=zz;exact hc pins s1 σ H1 vs us Q I1 r1 q1) he UL
end
end L2
namespace HT
open PySem PyProof.Rows
def lexLt:Ac->Ac->Bool
 |[],[]=>false
 |[],_::_=>true
 |_::_,[]=>false
 |x::xs,y::ys=>if x=y then lexLt xs ys else decide (x<y)
theorem Xl(x y:Int)(xs ys:Ac):lexLt (x::xs) (y::ys)=if x=y then lexLt xs ys else decide (x<y):=rfl
theorem sS(A:Around)(s:Shared)(a:Int)(t:Tok)(c:Int)(u:Tok):∃e,SeqAt.EqAt A s (.int a t) (.int c u) e/\(e=true↔a=c):=
 ⟨(a == c),SeqAt.EqAt.int_int a t c u,S⟩
section
variable{prog:Program}{w:World}{A:Around}{E:Ae}{s:Shared}
theorem MN{vs ws:Ag}{Q:Ae}(ht:IsTup s.heap t vs.toArray)(hb:IsTup s.heap b ws.toArray)(hv:vs≠[])
  (h1:ws=[]->Q (.ref t) s)(h2:ws≠[]->Q (.ref s.heap.objs.size) {s with heap:=s.heap.push {cls:=.type "tuple",data:=.seq (vs++ws).toArray} })
  (hsz:vs.length+ws.length<=sizeLine):wpAny (model prog w) A (binaryOp .Add (.ref t)<|.ref b) Q E s:=by
 obtain⟨⟨cls,dd,data,sl⟩,ho,hc,n,hd⟩:=id ht;obtain⟨⟨DR,Li,data2,Lh⟩,UK,Wc,n2,hd2⟩:=id hb;simp only at hc hd Wc hd2;subst hc hd Wc hd2;have e:vs.toArray++ws.toArray=(vs++ws).toArray:=S
 by_cases hw:ws=[]
 .exact concat_meets ⟨_,ho,Z⟩ ⟨_,UK,Z⟩ uP seq_tuple_add vC vH (JL _ _)
   (tuple_addW1 t b vs.toArray ws.toArray n n2 dd Li sl Lh (by simpa using hv)<|by simp[hw]) ⟨ho,UK,h1 hw⟩
 .refine concat_meets ⟨_,ho,Z⟩ ⟨_,UK,Z⟩ uP seq_tuple_add vC vH (JL _ _)
   (tuple_addW2 t b vs.toArray ws.toArray n n2 dd Li sl Lh (by simpa using hv) (by simpa using hw)<|by rwa[Yc,Yc]) ⟨ho,UK,?_⟩
  rw[e];exact h2 hw
def Vr(n d:Nat):Option Int->Nat
 |none=>d
 |some v=>if v<0 then (v+(n:Int)).toNat else min v.toNat n
theorem VU(n d:Nat):Vr n d none=d:=rfl
end
end HT
namespace L2
open PySem PySem.Spec PyProof.Rows
abbrev TO:=St->Hp->(Option Int->Hp->Prop)->Prop
def PO(X:Cx)(e:Option Expr)(t:TO):Prop:=
 ∀(pins:List (Addr×Obj))(s:Shared)(σ:St)(H:Hp)(Q:Option Int->Hp->Prop),Inv X pins σ H s->t σ H Q->
  wpAny (model X.prog X.w) X.A (evalPart e X.env) (λu s'=>∃o H',Inv X pins σ H' s'/\IsPart u o/\Q o H') X.xe s
def sR:TO:=λ_ H Q=>Q none H
def DQ(t:TE):TO:=λσ H Q=>t σ H λx H1=>∃i,x=.int i/\Q (some i) H1
section
variable{X:Cx}{e:Expr}{te:TE}{lo hi:Option Expr}{tl th:TO}{pos p2:Pos}
theorem Pq:PO X none sR:=by intro pins s σ H Q I h;rw[evalPart_none];exact Ym ⟨none,H,I,.none,h⟩
theorem QX(h:PE X e te):PO X (some e) (DQ te):=by intro pins s σ H Q I hw;rw[evalPart_some];refine thn (h pins s σ H _ I hw) λu s1 Xv=>?_;obtain⟨x,H1,I1,r1,q1⟩:=Xv;obtain⟨i,rfl,q⟩:=q1;obtain⟨t,rfl⟩:=r1;exact⟨some i,H1,I1,.int i t,q⟩
def yf(X:Cx)(r:V->Option Int->Option Int->Hp->VK->Prop):Prop:=
 ∀(pins:List (Addr×Obj))(s:Shared)(σ:St)(H:Hp)(x:V)(v vl vu:Value)(lo hi:Option Int)(sl:Addr)(Q:VK),Inv X pins σ H s->RelV x v->s.heap.IsSliceOf sl vl vu .none->IsPart vl lo->IsPart vu hi->r x lo hi H Q->
  ∃T id,typeLookup (.type T) "__getitem__"=pure (some<|.builtin id)/\s.TypeIs v T/\wpAny (model X.prog X.w) X.A (getItem v<|.ref sl) (EP X pins σ Q) X.xe s
def tSl(r:V->Option Int->Option Int->Hp->VK->Prop)(te:TE)(tl th:TO):TE:=λσ H Q=>te σ H λx H1=>tl σ H1 λl H2=>th σ H2 λu H3=>r x l u H3 Q
theorem ZY{r:V->Option Int->Option Int->Hp->VK->Prop}(hr:yf X r)(he:PE X e te)(hl:PO X lo tl)(hu:PO X hi th):PE X (.Subscript e (.Slice lo hi none p2) pos) (tSl r te tl th):=by
 intro pins s σ H Q I h;refine Subscript_ (thn (he pins s σ H _ I h) λv s1 Xv=>?_);obtain⟨x,H1,I1,r1,q1⟩:=Xv;refine wpAny_Slice (thn (hl pins s1 σ H1 _ I1 q1) λvl s2 zz=>?_);obtain⟨l,H2,I2,pl,q2⟩:=zz;refine thn (hu pins s2 σ H2 _ I2 q2) λvu s3 Xv=>?_;obtain⟨u,H3,I3,pu,q3⟩:=Xv;rw[evalPart_none];refine Ym ?_;have I4:Inv X pins σ H3 {s3 with heap:=s3.heap.push {cls:=.type "slice",data:=.fields #[vl,vu,.none]} }:=I3.kept (t':=s3.toks) λb ob q=>Xc _ q
 obtain⟨T,id,hT,ht,hg⟩:=hr pins {s3 with heap:=s3.heap.push {cls:=.type "slice",data:=.fields #[vl,vu,.none]} } σ H3 x v vl vu l u s3.heap.objs.size Q I4 r1 (Heap.IsSliceOf.new ..) pl pu q3;show wpAny (model X.prog X.w) X.A (subscriptTail e (.Slice lo hi none p2) v<|.ref s3.heap.objs.size) (EP X pins σ Q) X.xe {s3 with heap:=s3.heap.push {cls:=.type "slice",data:=.fields #[vl,vu,.none]} }
 exact tail_any (ops:=[.ref s3.heap.objs.size,v]) ht hT hg (by with_unfolding_all rfl)
def Xe(xs:List V)(lo hi:Option Int):List V:=(xs.drop<|HT.Vr xs.length 0 lo).take (HT.Vr xs.length xs.length hi-HT.Vr xs.length 0 lo)
theorem sQ(xs:List V)(lo hi:Option Int):(Xe xs lo hi).length<=xs.length:=by unfold Xe;rw[Yn,Wt];lia
inductive rCatT(K:Ad)(x:V)(y:V)(H:Hp)(Q:VK):Prop
 |mk (a b xs ys:_) (_:x=.ref a) (_:y=.ref b) (_:SqT K H a xs) (_:SqT K H b ys) (_:xs≠[]) (_:xs.length+ys.length<=sizeLine) (_:(ys=[]->Q (.ref a) H)) (_:(ys≠[]->∀p,H p=none->Q (.ref p) (upd H p<|.tup<|xs++ys)))
theorem Vals.nil_iff(r:Vals xs us):us=[]↔xs=[]:=by
 cases r with
 |nil=>simp
 |cons _ _=>simp
theorem sP:WH X (binaryOp .Add) (rCatT X.K):=by intro pins s σ H x y v u Q I rx ry h;obtain⟨a,b,xs,ys,rfl,rfl,ha,hb,hx,hz,q1,q2⟩:=h;cases rx;cases ry;obtain⟨XT,r1,p1,_⟩:=I.tuple ha;obtain⟨VT,r2,p2,_⟩:=I.tuple hb;refine HT.MN p1 p2 (λz=>hx<|r1.nil_iff.mp z) (λz=>⟨.ref a,H,I,Z,q1<|r2.nil_iff.mp z⟩) (λz=>?_) (by rwa[<-r1.length,<-r2.length]);refine⟨.ref s.heap.objs.size,_,I.laid (t':=s.toks) (o:=.tup<|xs++ys) (λb ob q=>Xc _ q) (XJ _) ?_,Z,q2 (λw=>z<|r2.nil_iff.mpr w) _<|I.hok.fresh<|XJ _⟩;exact⟨by rw[Xu];exact hz,_,r1.append r2,IsTup.new _ _⟩
end
def Pp(n:Nat)(i:Int):Option Nat:=if 0<=i then (if i<n then some i.toNat else none) else if -(n:Int)<=i then some (i+n).toNat else none
def Wr{α:Type}(xs:List α)(i:Int):Option α:=(Pp xs.length i).bind λj=>xs[j]?
theorem fo{j:Nat}(h:Pp n i=some j):seqIndex? i n=some j/\j<n/\-(n:Int)<=i/\i<n:=by
 unfold Pp at h;by_cases h0:0<=i
 .rw[if_pos h0]at h;by_cases h1:i<n
  .rw[if_pos h1]at h;have e:i.toNat=j:=Ye h
   exact⟨by rw[seqIndex_of h0 h1,e],J,J,h1⟩
  .rw[if_neg h1]at h;cases h
 .rw[if_neg h0]at h;by_cases h1:-(n:Int)<=i
  .rw[if_pos h1]at h;have e:(i+n).toNat=j:=Ye h
   exact⟨by rw[seqIndex_neg J h1,e],J,h1,J⟩
  .rw[if_neg h1]at h;cases h
theorem Jk{α:Type}{xs:List α}{i:Int}{v:α}(h:Wr xs i=some v):∃j,seqIndex? i xs.length=some j/\xs[j]?=some v/\j<xs.length/\-(xs.length:Int)<=i/\i<xs.length:=by
 unfold Wr at h;cases e:Pp xs.length i with
 |none=>rw[e]at h;cases h
 |some j=>
  rw[e]at h;obtain⟨h1,h2,h3,h4⟩:=fo e;exact⟨j,h1,h,h2,h3,h4⟩
def sO(b:Expr):Prop:=∀o i,subscripted b false o i=operate [o,i] (getItem o i)
def Gq(X:Cx)(r:R2):Prop:=
 ∀(value slice:Expr)(pins:List (Addr×Obj))(s:Shared)(σ:St)(H:Hp)(x y:V)(v u:Value)(Q:VK),Inv X pins σ H s->RelV x v->RelV y u->r x y H Q->
  subscripted slice false v u=operate [v,u] (getItem v u)->wpAny (model X.prog X.w) X.A (subscriptTail value slice v u) (EP X pins σ Q) X.xe s
def ye(X:Cx)(id:String)(r:V->List V->Hp->VK->Prop):Prop:=
 ∀(pins:List (Addr×Obj))(s:Shared)(σ:St)(H:Hp)(x:V)(xs:List V)(v:Value)(us:Ag)(Q:VK),Inv X pins σ H s->RelV x v->Vals xs us->r x xs H Q->
  wpAny (model X.prog X.w) X.A (call (.builtin id)<|v::us) (EP X pins σ Q) X.xe s
section
variable{X:Cx}{a b:Expr}{ta tb:TE}{pos:Pos}
theorem ZC(hr:Gq X r)(ha:PE X a ta)(hb:PE X b tb)(hs:sO b):PE X (.Subscript a b pos) (yk r ta tb):=by intro pins s σ H Q I h;exact Subscript_ (Jq ha hb I h λv u s2 x y H2 I2 rx ry q=>hr a b pins s2 σ H2 x y v u Q I2 rx ry q<|hs _ _)
inductive rIxL(K:Ad)(x:V)(y:V)(H:Hp)(Q:VK):Prop
 |mk (p xs i v:_) (_:x=.ref p) (_:y=.int i) (_:SqL K H p xs) (_:Wr xs i=some v) (_:Q v H)
inductive rIxT(K:Ad)(x:V)(y:V)(H:Hp)(Q:VK):Prop
 |mk (p xs i v:_) (_:x=.ref p) (_:y=.int i) (_:SqT K H p xs) (_:Wr xs i=some v) (_:Q v H)
inductive rIxS(x:V)(y:V)(H:Hp)(Q:VK):Prop
 |mk (z i c:_) (_:x=.str z) (_:y=.int i) (_:z.length<=sizeLine) (_:Wr z.cps.toList i=some c) (_:Q (.str ⟨#[c]⟩) H)
theorem sN:Gq X (rIxL X.K):=by
 intro value slice pins s σ H x y v u Q I rx ry h hs;obtain⟨p,xs,i,z,rfl,rfl,hq,he,q⟩:=h;cases rx;obtain⟨t,rfl⟩:=ry;obtain⟨XT,r,pl,hz⟩:=I.list hq;obtain⟨j,h1,h2,h3,h4,h5⟩:=Jk he;obtain⟨w,ew,MM⟩:=r.get h2;have hl:=r.length
 have hn:=Jo;have fin:EP X pins σ Q w s:=⟨z,H,I,MM,q⟩
 by_cases h0:0<=i
 .have hj:i.toNat=j:=by rw[seqIndex_of h0 h5]at h1;exact Ye h1
  exact item_listR pl.isList h0 J (by rw[hj];simpa using ew) fin hs
 .have hj:(i+(XT.toArray.size:Int)).toNat=j:=by rw[seqIndex_neg J h4]at h1;rw[Yc,<-hl];exact Ye h1
  exact subscriptTail_builtinR (x:=w) pl.isList.typeIs slot_list_getitem.lookup
   (wpAny_getItem_list_neg (Q:=λr s'=>r=w/\EP X pins σ Q r s') pl.isList uD (by rw[Yc]<;>lia) J (by rw[hj];simpa using ew) ⟨rfl,fin⟩) hs
theorem sM:Gq X (rIxT X.K):=by
 intro value slice pins s σ H x y v u Q I rx ry h hs;obtain⟨p,xs,i,z,rfl,rfl,hq,he,q⟩:=h;cases rx;obtain⟨t,rfl⟩:=ry;obtain⟨XT,r,pl,hz⟩:=I.tuple hq;obtain⟨j,h1,h2,h3,h4,h5⟩:=Jk he;obtain⟨w,ew,MM⟩:=r.get h2;have hl:=r.length
 have hn:=Jo;have fin:EP X pins σ Q w s:=⟨z,H,I,MM,q⟩
 exact subscriptTail_builtinR (x:=w) pl.typeIs slot_tuple_getitem.lookup
  (getItem_tuple (j:=j) (Q:=λr s'=>r=w/\EP X pins σ Q r s') pl J J (by rwa[Yc,<-hl]) (by simpa using ew) ⟨Z,fin⟩) hs
theorem sL:Gq X rIxS:=by
 intro value slice pins s σ H x y v u Q I rx ry h hs;obtain⟨z,i,c,rfl,rfl,hz,he,q⟩:=h;obtain⟨t,rfl⟩:=rx;obtain⟨t',rfl⟩:=ry;obtain⟨j,h1,h2,h3,h4,h5⟩:=Jk he;have hl:z.cps.toList.length=z.length:=by simp[Str.length]
 rw[hl]at h1 h4 h5;have hn:=Jo
 exact tail_any (Gy s z t) slot_str_getitem.lookup (getItem_str (c:=c) (by
  have e1:decide (i < -(2^63:Int))=false:=YR J;have e2:decide (i >= 2^63)=false:=YR J
  rw[e1,e2,Bool.or_false]) (by rw[h1];simpa using h2) ⟨.str ⟨#[c]⟩,H,I.tok _,⟨_,Z⟩,q⟩) hs
theorem Za7(XT:Ag)(n j:Nat)(u:Value):Obj.mapSeq (·.setIfInBounds j u) {cls:=.type "list",data:=.seq XT.toArray n}={cls:=.type "list",data:=.seq (XT.set j u).toArray n}:=by simp[Obj.mapSeq]
theorem Inv.lst{pins:List (Addr×Obj)}{σ:St}{H:Hp}{s:Shared}{p:Addr}{xs:List V}(I:Inv X pins σ H s)(h:H p=some (.lst xs)):
  ∃(XT:Ag)(n:Nat),Vals xs XT/\s.heap.get? p=some {cls:=.type "list",data:=.seq XT.toArray n}/\xs.length<=sizeLine:=by obtain⟨z,XT,n,r,e⟩:=I.hok p _ h;exact⟨XT,n,r,e,z⟩
theorem Inv.lstUpd{p:Addr}{xs ys:List V}{XT its':Ag}{f:Obj->Obj}(I:Inv X pins σ H s)(h:H p=some (.lst xs))
  (ho:s.heap.get? p=some {cls:=.type "list",data:=.seq XT.toArray n})(hf:f {cls:=.type "list",data:=.seq XT.toArray n}={cls:=.type "list",data:=.seq its'.toArray n'})(r:Vals ys its')(hz:ys.length<=sizeLine)(t:Nat):
  Inv X pins σ (upd H p<|.lst ys) {s with heap:=s.heap.update p f,toks:=t}:=by
 have e:(s.heap.update p f).get? p=some {cls:=.type "list",data:=.seq its'.toArray n'}:=by rw[VF f ho (by rw[hf]<;>rfl),hf]
 refine I.write (x:=p) (e:=p) (by rw[h];trivial) (.inl Z) (λb u hb q=>(YU _ _<|XI hb).trans q) ⟨_,e⟩ ?_;exact⟨hz,its',n',r,e⟩
inductive rSetL(o:V)(i:V)(v:V)(H:Hp)(Q:Hp->Prop):Prop
 |mk (p xs k j:_) (_:o=.ref p) (_:i=.int k) (_:H p=some (.lst xs)) (_:Pp xs.length k=some j) (_:Q (upd H p<|.lst<|xs.set j v))
theorem Jj:Jy X rSetL:=by
 intro pins s σ H o i v ov iv u Q I ro ri rv h;obtain⟨p,xs,k,j,rfl,rfl,hp,hj,q⟩:=h;cases ro;obtain⟨t,rfl⟩:=ri;obtain⟨XT,n,r,ho,hz⟩:=I.lst hp;obtain⟨h1,h2,h3,h4⟩:=fo hj;have hl:=r.length
 have hn:=Jo;have I':Inv X pins σ (upd H p<|.lst<|xs.set j v) {s with heap:=s.heap.update p (Obj.mapSeq (·.setIfInBounds j u))}:=
  I.lstUpd hp ho (Za7 XT n j u) (r.set rv j) (by rwa[Tp]) s.toks
 by_cases h0:0<=k
 .have hk:k.toNat=j:=by rw[seqIndex_of h0 h4]at h1;exact Ye h1
  exact PySem.W.ki_setAt ho h0 J (by rwa[Yc,<-hl]) (by rw[hk];exact⟨_,I',q⟩)
 .have hk:(k+(XT.toArray.size:Int)).toNat=j:=by rw[seqIndex_neg J h3]at h1;rw[Yc,<-hl];exact Ye h1
  exact PySem.W.ki_setBack ho uD (by rwa[Yc,<-hl]) J (by rw[hk];exact⟨_,I',q⟩)
theorem Yz4(lo hi:Option Int)(n:Nat):(sliceBounds lo hi none n).1=((HT.Vr n 0 lo:Nat):Int)/\(sliceBounds lo hi none n).2.1=((HT.Vr n n hi:Nat):Int)/\(sliceBounds lo hi none n).2.2=1:=by
 refine⟨?_,?_,Z⟩
 .cases lo with
  |none=>simp[sliceBounds,HT.Vr]
  |some i=>
   simp only[sliceBounds,HT.Vr,Option.getD_none,show(1:Int)>0 by decide,NL];by_cases h:i<0
   .simp only[h,NL]<;>grind
   .simp only[h,Sr]<;>grind
 .cases hi with
  |none=>simp[sliceBounds,HT.Vr]
  |some i=>
   simp only[sliceBounds,HT.Vr,Option.getD_none,show(1:Int)>0 by decide,NL];by_cases h:i<0
   .simp only[h,NL]<;>omega
   .simp only[h,Sr]<;>omega
theorem ZU3(XT:Ag)(lo hi:Option Int):slicePick XT.toArray lo hi none=((XT.drop (HT.Vr XT.length 0 lo)).take (HT.Vr XT.length XT.length hi-HT.Vr XT.length 0 lo)).toArray:=by obtain⟨h1,h2,h3⟩:=Yz4 lo hi XT.toArray.size;unfold slicePick;rw[h1,h2,h3];simp only[sliceRange_one,pick_run,Yc]<;>rfl
inductive rSlL(K:Ad)(x:V)(lo:Option Int)(hi:Option Int)(H:Hp)(Q:VK):Prop
 |mk (a xs:_) (_:x=.ref a) (_:SqL K H a xs) (_:∀p,H p=none->Q (.ref p) (upd H p<|.lst<|Xe xs lo hi))
theorem sJ:yf X (rSlL X.K):=by
 intro pins s σ H x v vl vu lo hi sl Q I rx hs pl pu h;obtain⟨a,xs,rfl,hx,q⟩:=h;cases rx;obtain⟨XT,r,ht,hz⟩:=I.list hx;have hlen:=r.length
 refine⟨"list",_,slot_list_getitem.lookup,ht.isList.typeIs,?_⟩;refine wpAny_getItem_list_slice ht.isList hs pl pu .none S ?_ (by rw[Yc]<;>lia)
 rw[ZU3,<-hlen];refine⟨.ref s.heap.objs.size,_,I.laid (t':=s.toks) (o:=.lst<|Xe xs lo hi) (λb ob q=>Xc _ q) (XJ _) ?_,Z,q _<|I.hok.fresh<|XJ _⟩;exact⟨Yv (sQ xs lo hi) hz,_,0,(r.drop<|HT.Vr xs.length 0 lo).take (HT.Vr xs.length xs.length hi-HT.Vr xs.length 0 lo),Yk _ Z⟩
def SF:V->Bool
 | .non=>true
 | .bl _=>true
 | .int _=>true
 | .str _=>true
 |_=>false
def SE:V->V->Bool
 | .non,.non=>true
 | .bl a,.bl b=>a == b
 | .bl a,.int b=>(if a then 1 else 0) == b
 | .int a,.bl b=>a == (if b then 1 else 0)
 | .int a,.int b=>a == b
 | .str a,.str b=>a == b
 |_,_=>false
theorem DP(ry:RelV y u)(rx:RelV x v)(fy:SF y=true)(fx:SF x=true):SeqAt.EqAt A s u v (SE y x):=by
 cases y with
 |non=>
  cases ry;cases x with
  |non=>cases rx;exact SeqAt.EqAt.same _
  |bl b=>cases rx;exact SeqAt.EqAt.none_bool b
  |int b=>obtain⟨t,rfl⟩:=rx;exact SeqAt.EqAt.none_int b t
  |str b=>obtain⟨t,rfl⟩:=rx;exact SeqAt.EqAt.none_str b t
  |_=>exact absurd (show false=true from fx) Yy
 |bl a=>
  cases ry;cases x with
  |non=>cases rx;exact SeqAt.EqAt.bool_none a
  |bl b=>cases rx;exact SeqAt.EqAt.bool_bool a b
  |int b=>obtain⟨t,rfl⟩:=rx;exact SeqAt.EqAt.bool_int a b t
  |str b=>obtain⟨t,rfl⟩:=rx;exact SeqAt.EqAt.bool_str a b t
  |_=>exact absurd (show false=true from fx) Yy
 |int a=>
  obtain⟨t',rfl⟩:=ry;cases x with
  |non=>cases rx;exact SeqAt.EqAt.int_none a t'
  |bl b=>cases rx;exact SeqAt.EqAt.int_bool a t' b
  |int b=>obtain⟨t,rfl⟩:=rx;exact SeqAt.EqAt.int_int a t' b t
  |str b=>obtain⟨t,rfl⟩:=rx;exact SeqAt.EqAt.int_str a t' b t
  |_=>exact absurd (show false=true from fx) Yy
 |str a=>
  obtain⟨t',rfl⟩:=ry;cases x with
  |non=>cases rx;exact SeqAt.EqAt.str_none a t'
  |bl b=>cases rx;exact SeqAt.EqAt.str_bool a t' b
  |int b=>obtain⟨t,rfl⟩:=rx;exact SeqAt.EqAt.str_int a t' b t
  |str b=>obtain⟨t,rfl⟩:=rx;exact SeqAt.EqAt.str_str a t' b t
  |_=>exact absurd (show false=true from fx) Yy
 |_=>exact absurd (show false=true from fy) Yy
def Tx(x:V)(u:Value):Bool:=match u with
 | .none=>SE .non x
 | .bool b=>SE (.bl b) x
 | .int i _=>SE (.int i) x
 | .str z _=>SE (.str z) x
 |_=>false
theorem DO(r:RelV y u)(f:SF y=true):Tx x u=SE y x:=by
 cases y with
 |non=>cases r;rfl
 |bl b=>cases r;rfl
 |int i=>obtain⟨t,rfl⟩:=r;rfl
 |str z=>obtain⟨t,rfl⟩:=r;rfl
 |_=>exact absurd (show false=true from f) Yy
theorem yd{xs:List V}{us:Ag}(h:Vals xs us)(f:xs.all SF=true):us.any (Tx x)=xs.any λy=>SE y x:=by
 induction h with
 |nil=>rfl
 |cons r t ih=>
  rw[List.all_cons,JU]at f;rw[ES,ES,DO r f.1,ih f.2]
theorem DN(rx:RelV x v)(fx:SF x=true){xs:List V}{us:Ag}(h:Vals xs us)(f:xs.all SF=true):∀u∈us,SeqAt.EqAt A s u v (Tx x u):=by
 induction h with
 |nil=>intro u hu;cases hu
 |cons r t ih=>
  intro u' hu;rw[List.all_cons,JU]at f;rcases Yg.mp hu with rfl|hu
  .rw[DO r f.1];exact DP r rx f.1 fx
  .exact ih f.2 u' hu
def Gp(x:V)(xs:List V):Bool:=xs.any λy=>SE y x
def fk(K:Ad)(neg:Bool):R2:=λx y H Q=>∃p xs,y=.ref p/\(SqL K H p xs\/SqT K H p xs)/\SF x=true/\xs.all SF=true/\Q (.bl<|if neg then !Gp x xs else Gp x xs) H
theorem Zx8:WH X (compareOp .In) (fk X.K false):=by
 intro pins s σ H x y v u Q I rx ry h;obtain⟨p,xs,rfl,hq,fx,fs,q⟩:=h;cases ry;rcases hq with hq|hq
 .obtain⟨XT,r,pl,hz⟩:=I.list hq;refine SeqAt.in_listAt (Tx x) pl.isList (λw hw=>DN rx fx r fs w<|by simpa using hw) ⟨.bl _,H,I,Z,?_⟩;rwa[show XT.toArray.any (Tx x)=XT.any (Tx x) by simp,yd r fs]
 .obtain⟨XT,r,pl,hz⟩:=I.tuple hq;refine SeqAt.in_tupleAt (Tx x) pl (λw hw=>DN rx fx r fs w<|by simpa using hw) ⟨.bl _,H,I,Z,?_⟩;rwa[show XT.toArray.any (Tx x)=XT.any (Tx x) by simp,yd r fs]
theorem ZF4:WH X (compareOp .NotIn) (fk X.K true):=by
 intro pins s σ H x y v u Q I rx ry h;obtain⟨p,xs,rfl,hq,fx,fs,q⟩:=h;cases ry;rcases hq with hq|hq
 .obtain⟨XT,r,pl,hz⟩:=I.list hq;refine SeqAt.notIn_listAt (Tx x) pl.isList (λw hw=>DN rx fx r fs w<|by simpa using hw) ⟨.bl _,H,I,Z,?_⟩;rwa[show XT.toArray.any (Tx x)=XT.any (Tx x) by simp,yd r fs]
 .obtain⟨XT,r,pl,hz⟩:=I.tuple hq;refine SeqAt.notIn_tupleAt (Tx x) pl (λw hw=>DN rx fx r fs w<|by simpa using hw) ⟨.bl _,H,I,Z,?_⟩;rwa[show XT.toArray.any (Tx x)=XT.any (Tx x) by simp,yd r fs]
theorem ZW4:Vx X (.builtin "len") (λxs H Q=>∃p ys,xs=[.ref p]/\(SqL X.K H p ys\/SqT X.K H p ys)/\Q (.int ys.length) H):=by
 intro pins s σ H xs us Q I r h;obtain⟨p,ys,rfl,hq,q⟩:=h;obtain⟨u,rfl,rx⟩:=WL r;cases rx;have hn:=Jo
 rcases hq with hq|hq
 .obtain⟨XT,r',pl,hz⟩:=I.list hq;have hlen:=r'.length
  exact Calls.call_len_list pl.isList (by simp only[Yc]<;>lia) ⟨.int ys.length,H,I.tok _,⟨s.toks+1,by rw[Yc,hlen]⟩,q⟩
 .obtain⟨XT,r',pl,hz⟩:=I.tuple hq;have hlen:=r'.length
  exact len_tuple pl (by simp only[Yc]<;>omega) ⟨.int ys.length,H,I.tok _,⟨s.toks+1,by rw[Yc,hlen]⟩,q⟩
theorem ZV4:Vx X (.builtin "len") (λxs H Q=>∃z,xs=[.str z]/\z.length<=sizeLine/\Q (.int z.length) H):=by
 intro pins s σ H xs us Q I r h;obtain⟨z,rfl,hz,q⟩:=h;obtain⟨u,rfl,t,rfl⟩:=WL r;have hn:=Jo
 exact len_str J ⟨.int z.length,H,I.tok _,⟨_,Z⟩,q⟩
theorem ZU4:Vx X (.type "list") (λxs H Q=>∃p ys,xs=[.ref p]/\(SqL X.K H p ys\/SqT X.K H p ys)/\∀l,H l=none->Q (.ref l) (upd H l (.lst ys))):=by
 intro pins s σ H xs us Q I r h;obtain⟨p,ys,rfl,hq,q⟩:=h;obtain⟨u,rfl,rx⟩:=WL r;cases rx;have fin:∀(XT:Ag),Vals ys XT->ys.length<=sizeLine->∀(h':Heap)(c':Nat),(∀b o',s.heap.get? b=some o'->h'.get? b=some o')->
   h'.get? s.heap.objs.size=some {cls:=.type "list",dict:=none,data:=.seq XT.toArray c',slots:=#[]}->EP X pins σ Q (.ref s.heap.objs.size) {s with heap:=h'}:=λXT r' hz h' c' kp e=>
  ⟨.ref s.heap.objs.size,_,I.laid (t':=s.toks) kp (XJ _)<|show ObjOk X.prog X.w _ h' _ (.lst ys) from⟨hz,XT,c',r',e⟩,Z,q _<|I.hok.fresh<|XJ _⟩
 rcases hq with hq|hq
 .obtain⟨XT,r',pl,hz⟩:=I.list hq;have hlen:=r'.length
  obtain⟨o,ho,hc,n,hd⟩:=pl.isList;exact call_list_seq p (.inl rfl) ho hc hd (λh' c' kp e=>fin XT r' hz h' c' kp e) (by simp only[Yc]<;>omega)
 .obtain⟨XT,r',pl,hz⟩:=I.tuple hq;have hlen:=r'.length
  obtain⟨o,ho,hc,n,hd⟩:=pl;exact call_list_seq p (.inr rfl) ho hc hd (λh' c' kp e=>fin XT r' hz h' c' kp e) (by simp only[Yc]<;>omega)
theorem Zj4:Vx X (.type "tuple") (λxs H Q=>∃p ys,xs=[.ref p]/\((SqL X.K H p ys/\∀l,H l=none->Q (.ref l) (upd H l (.tup ys)))\/(SqT X.K H p ys/\Q (.ref p) H))):=by
 intro pins s σ H xs us Q I r h;obtain⟨p,ys,rfl,h⟩:=h;obtain⟨u,rfl,rx⟩:=WL r;cases rx;rcases h with ⟨hq,q⟩|⟨hq,q⟩
 .obtain⟨XT,r',pl,hz⟩:=I.list hq;have hlen:=r'.length
  refine call_tuple_list pl.isList (λh' kp=>?_) (by simp only[Yc]<;>omega)
  have I1:Inv X pins σ H {s with heap:=h'}:=I.kept (t':=s.toks) kp;have I2:Inv X pins σ (upd H h'.objs.size<|.tup ys) {s with heap:=h'.push {cls:=.type "tuple",data:=.seq XT.toArray} }:=
   I1.laid (t':=s.toks) (λb o e=>Xc _ e) (XJ _) (show ObjOk X.prog X.w _ _ _ (.tup ys) from⟨hz,XT,r',IsTup.new _ _⟩)
  exact⟨.ref h'.objs.size,_,I2,Z,q _<|I1.hok.fresh<|XJ _⟩
 .obtain⟨XT,r',pl,hz⟩:=I.tuple hq;exact call_tuple_same pl ⟨.ref p,H,I,Z,q⟩
def sI(K:Ad)(T:String)(x:V)(H:Hp):Prop:=match x with
 | .str _=>T="str"
 | .int _=>T="int"
 | .ref p=>(T="list"/\∃xs,SqL K H p xs)\/(T="tuple"/\∃o,K.lookup p=some o/\o.cls=.type "tuple"/\o.dict=none)\/
   (T="dict"/\((∃kvs,H p=some (.dK kvs))\/∃kvs,H p=some (.dT kvs)))\/(T="set"/\∃uz n,H p=some (.set uz n))
 |_=>False
theorem Lg(I:Inv X pins σ H s)(r:RelV x v)(ty:sI X.K T x H):
  s.TypeIs v T/\∀a,v=.ref a->∃ob,s.heap.get? a=some ob/\ob.dict=none:=by
 cases x with
 |str z=>
  obtain⟨t,rfl⟩:=r;cases (show T="str" from ty);exact⟨Gy s z t,λ_ e=>nomatch e⟩
 |int i=>
  obtain⟨t,rfl⟩:=r;cases (show T="int" from ty);exact⟨typeIs_int s i t,λ_ e=>nomatch e⟩
 |ref p=>
  cases r;rcases ty with ⟨rfl,xs,hq⟩|⟨rfl,o,hk,hc,hd⟩|⟨rfl,hk⟩|⟨rfl,uz,n,hk⟩
  .obtain⟨XT,_,pl,_⟩:=I.list hq;refine⟨pl.isList.typeIs,λa e=>?_⟩;cases e;obtain⟨o,n,e,c,hd,_⟩:=pl;exact⟨o,e,hd⟩
  .refine⟨⟨o,I.kIn p o hk,hc⟩,λa e=>?_⟩;cases e;exact⟨o,I.kIn _ o hk,hd⟩
  .have z:∃o,s.heap.get? p=some o/\o.ExactDict:=by
    rcases hk with ⟨kvs,hk⟩|⟨kvs,hk⟩
    .obtain⟨_,_,_,_,o,_,_,e,ex,_⟩:=I.hok p _ hk;exact⟨o,e,ex⟩
    .obtain⟨_,_,_,_,o,_,_,e,ex,_⟩:=I.hok p _ hk;exact⟨o,e,ex⟩
   obtain⟨o,e,ex⟩:=z;refine⟨⟨o,e,ex.1⟩,λa e2=>?_⟩;cases e2;exact⟨o,e,ex.2.1⟩
  .obtain⟨o,_,_,_,e,ex,_⟩:=I.hok p _ hk;refine⟨⟨o,e,ex.1⟩,λa e2=>?_⟩;cases e2;exact⟨o,e,ex.2.1⟩
 |_=>exact False.elim ty
def DM(K:Ad)(T:String)(r:V->List V->Hp->VK->Prop)(to:TE):TE:=λσ H Q=>to σ H λx H1=>sI K T x H1/\r x [] H1 Q
def fj(K:Ad)(T:String)(r:V->List V->Hp->VK->Prop)(to:TE)(t:TA):TE:=λσ H Q=>to σ H λx H1=>sI K T x H1/\t σ H1 λxs H2=>r x xs H2 Q
variable{o e:Expr}{es:List Expr}{to:TE}{t:TA}{name:Str}{apos WU:Pos}{T id:String}{r:V->List V->Hp->VK->Prop}
theorem sG(pa:PlainAttrs T)(slot:Slot T name id)(Ji:typeOf (.builtin id)=pure (.type "method_descriptor"))(hm:ye X id r)(ho:PE X o to)
  (UZ:attributeBase o name X.env (eval o X.env)=eval o X.env:=by rfl)(UY:(apos.endLine == WU.line)=true:=by rfl):PE X (.Call (.Attribute o name apos) [] [] WU) (DM X.K T r to):=by intro pins s σ H Q I h;refine wpAny_Call_method0_late UZ UY (thn (ho pins s σ H _ I h) λv s1 Xv=>?_);obtain⟨x,H1,I1,r1,ty,q1⟩:=Xv;obtain⟨h1,h2⟩:=Lg I1 r1 ty;exact⟨T,id,pa,slot,Ji,h1,h2,Calls.callWith_builtin Z<|PySem.evalArgs_none<|hm pins s1 σ H1 x [] v [] Q I1 r1 .nil q1⟩
theorem sF(pa:PlainAttrs T)(slot:Slot T name id)(Ji:typeOf (.builtin id)=pure (.type "method_descriptor"))(hm:ye X id r)(ho:PE X o to)(ha:PA X (e::es) t)
  (UZ:attributeBase o name X.env (eval o X.env)=eval o X.env:=by rfl)
  (Jh:((backTo WU<|starEach (e::es) X.env).all (λx=>!x.1)&&(backToKw WU<|keywordEach [] X.env).all (λx=>x.1.isSome)
   && decide ((e::es).length+([]:List Keyword).length+(if ([]:List Keyword).isEmpty then 0 else 1)<30))=true:=by rfl)
  (UY:(apos.endLine == WU.line)=true:=by rfl)(hs:starEach (e::es) X.env=(false,eval e X.env)::starEach es X.env:=by rfl)(Sk:(backTo WU<|starEach es X.env).any (·.1)=false:=by rfl):
  PE X (.Call (.Attribute o name apos) (e::es) [] WU) (fj X.K T r to t):=by
 intro pins s σ H Q I h;refine wpAny_Call_method_late UZ Jh UY Z (thn (ho pins s σ H _ I h) λv s1 Xv=>?_);obtain⟨x,H1,I1,r1,ty,q1⟩:=Xv;obtain⟨h1,h2⟩:=Lg I1 r1 ty;refine⟨T,id,pa,slot,Ji,h1,h2,?_⟩;have hA:=ha WU pins s1 σ H1 _ I1 q1
 rw[hs]at hA ⊢;refine Calls.callWith_builtin (by show(false||(backTo WU<|starEach es X.env).any (·.1))=false;rw[Sk]<;>rfl) (Calls.evalArgs_plain ?_)
 exact thn hA λus s2 zz=>by obtain⟨vs,H2,I2,r2,q2⟩:=zz;exact hm pins s2 σ H2 x vs v us Q I2 r1 r2 q2
end
def NI(X:Cx)(id:String)(r:V->List V->Hp->VK->Prop):Prop:=
 ∀(pins:List (Addr×Obj))(s:Shared)(σ:St)(H:Hp)(x:V)(xs:List V)(v:Value)(us:Ag)(Q:VK),Inv X pins σ H s->RelV x v->Vals xs us->r x xs H Q->
  wpAny (model X.prog X.w) X.A (call (.builtin id)<|v::us) (EP X pins σ Q) X.xe s
theorem Vals.one{x:V}{us:Ag}(r:Vals [x] us):∃u,us=[u]/\RelV x u:=by
 cases r with
 |cons a r=>cases r;exact⟨_,Z,a⟩
theorem Vals.eraseIdx{xs:List V}{us:Ag}(i:Nat)(h:Vals xs us):Vals (xs.eraseIdx i) (us.eraseIdx i):=by
 induction h generalizing i with
 |nil=>exact .nil
 |cons r t ih=>
  cases i with
  |zero=>exact t
  |succ i=>exact .cons r (ih i)
theorem Vals.rep(h:Vals xs us):∀k:Nat,Vals (List.replicate k xs).flatten (List.replicate k us).flatten
 |0=>.nil
 |k+1=>by rw[JX,JX,EY,EY];exact Vals.append h (Vals.rep h k)
theorem fi{α:Type}:∀(l:List α)(i:Nat),(l.eraseIdx i).length<=l.length
 |[],_=>XJ _
 |_::_,0=>TH _
 |_::r,i+1=>yW (fi r i)
theorem fh(XT:Ag):∀(k:Nat)(acc:Ag),
  List.foldl (λx1 x2=>x1++x2) acc.toArray (List.replicate k XT.toArray)=(acc++(List.replicate k XT).flatten).toArray
 |0,acc=>S
 |k+1,acc=>by
  have e:acc.toArray++XT.toArray=(acc++XT).toArray:=S;have e2:(acc++XT)++(List.replicate k XT).flatten=acc++(List.replicate (k+1) XT).flatten:=by rw[JX,EY,Wd]
  rw[<-e2,<-fh XT k (acc++XT),<-e,JX,yQ]
section
variable{X:Cx}{pins:List (Addr×Obj)}{σ:St}{H:Hp}{s:Shared}{l:Addr}{xs ys:List V}
theorem Inv.lset{XT its':Ag}{f:Array Value->Array Value}{t':Nat}(I:Inv X pins σ H s)(hH:H l=some (.lst xs))
  (e:s.heap.get? l=some {cls:=.type "list",data:=.seq XT.toArray n})(hf:f XT.toArray=its'.toArray)(hv:Vals ys its')(hz:ys.length<=sizeLine):
  Inv X pins σ (upd H l<|.lst ys) {s with heap:=s.heap.update l<|Obj.mapSeq f,toks:=t'}:=by have q:=PySem.IsL.update e f;rw[hf]at q;refine I.write (x:=l) (e:=l) (by rw[hH];exact trivial) (.inl Z) (λb' u hb hu=>(YU s.heap (Obj.mapSeq f)<|XI hb).trans hu) ⟨_,q⟩ ?_;exact⟨hz,its',_,hv,q⟩
theorem Inv.lnew{t':Nat}(I:Inv X pins σ H s)(hv:Vals ys XT)(hz:ys.length<=sizeLine):
  Inv X pins σ (upd H s.heap.objs.size<|.lst ys) {s with heap:=s.heap.push {cls:=.type "list",data:=.seq XT.toArray},toks:=t'}:=
 I.laid (λ_ _ q=>Xc _ q) (XJ _) ⟨hz,XT,0,hv,Yk _ Z⟩
theorem Inv.fresh(I:Inv X pins σ H s):H s.heap.objs.size=none:=I.hok.fresh (XJ _)
theorem Inv.lstM(I:Inv X pins σ H s)(hH:H l=some (.lst xs)):xs.length<=sizeLine/\∃(XT:Ag)(n:Nat),Vals xs XT/\xs.length=XT.length/\s.heap.get? l=some {cls:=.type "list",data:=.seq XT.toArray n}:=by obtain⟨z,XT,n,r,e⟩:=I.hok l _ hH;exact⟨z,XT,n,r,r.length,e⟩
theorem DL(h:n<=sizeLine):Builtin.List.listTooLong n=false:=by unfold Builtin.List.listTooLong;exact YR J
end
section
variable{X:Cx}
inductive rAppend(x:V)(vs:List V)(H:Hp)(Q:VK):Prop
 |mk (l xs y:_) (_:x=.ref l) (_:vs=[y]) (_:H l=some (.lst xs)) (_:xs.length<sizeLine) (_:Q .non (upd H l<|.lst<|xs++[y]))
theorem ZU:NI X "list.append" rAppend:=by intro pins s σ H x vs v us Q I rx rv h;obtain⟨l,xs,y,rfl,rfl,hH,hz,q⟩:=h;cases rx;obtain⟨u,rfl,ru⟩:=rv.one;obtain⟨z,XT,n,r,hl,e⟩:=I.lstM hH;refine NM F.slot_list_append ⟨_,e,Z⟩ F.entry_list_append (F.args_list_append_2 _ _) (PySem.list_append l XT.toArray n u<|by rw[Yc];lia) ⟨e,?_⟩;refine⟨.non,_,I.lset (its':=XT++[u]) hH e S (r.append<|.cons ru .nil) ?_,Z,q⟩;rw[Xu,Yu];lia
inductive rExtend(x:V)(vs:List V)(H:Hp)(Q:VK):Prop
 |mk (l b xs zs:_) (_:x=.ref l) (_:vs=[.ref b]) (_:H l=some (.lst xs)) (_:H b=some (.lst zs)) (_:xs.length+zs.length<=sizeLine) (_:Q .non (upd H l<|.lst<|xs++zs))
theorem fg:NI X "list.extend" rExtend:=by
 intro pins s σ H x vs v us Q I rx rv h;obtain⟨l,b,xs,zs,rfl,rfl,hH,hB,hz,q⟩:=h;cases rx;obtain⟨u,rfl,ru⟩:=rv.one;cases ru;obtain⟨z,XT,n,r,hl,e⟩:=I.lstM hH;obtain⟨z2,VT,n2,r2,SD,e2⟩:=I.lstM hB;have hsz:XT.toArray.size+VT.toArray.size<=sizeLine:=by rw[Yc,Yc];grind
 have Po:¬(!XT.toArray.isEmpty&&Builtin.List.listTooLong (XT.toArray.size+VT.toArray.size))=true:=by rw[DL hsz,Bool.and_false];exact Yy
 refine NM F.slot_list_extend ⟨_,e,Z⟩ F.entry_list_extend (F.args_list_extend_2 _ _)
  (AutoSeq1.list_extend_list_list_0 l XT.toArray n b VT.toArray n2 Po (by rw[Yc];grind) J) ⟨e,e2,?_⟩
 refine⟨.non,_,I.lset (its':=XT++VT) hH e S (r.append r2) ?_,Z,q⟩;rw[Xu];lia
inductive rPopAt(x:V)(vs:List V)(H:Hp)(Q:VK):Prop
 |mk (l xs i k y:_) (_:x=.ref l) (_:vs=[.int i]) (_:H l=some (.lst xs)) (_:-(2^63)<=i) (_:i<2^63) (_:seqIndex? i xs.length=some k) (_:xs[k]?=some y) (_:Q y (upd H l<|.lst<|xs.eraseIdx k))
theorem DK:NI X "list.pop" rPopAt:=by
 intro pins s σ H x vs v us Q I rx rv h;obtain⟨l,xs,i,k,y,rfl,rfl,hH,h1,h2,hk,hy,q⟩:=h;cases rx;obtain⟨u,rfl,ru⟩:=rv.one;obtain⟨t,rfl⟩:=ru;obtain⟨z,XT,n,r,hl,e⟩:=I.lstM hH;obtain⟨w,hw,MM⟩:=r.get hy;refine NM F.slot_list_pop ⟨_,e,Z⟩ F.entry_list_pop (F.args_list_pop_2 _ _)
  (MeetsSeq.list_pop_at l XT.toArray n i t k w (fitsIndex_both h1 h2) (by rwa[Yc,<-hl]) (by rwa[<-YW])<|by rw[Yc];lia) ⟨e,?_⟩
 refine⟨y,_,I.lset (its':=XT.eraseIdx k) hH e ?_ (r.eraseIdx k) ?_,MM,q⟩
 .show XT.toArray.eraseIdxIfInBounds k=(XT.eraseIdx k).toArray;rw[List.eraseIdxIfInBounds_toArray]
 .have:=fi xs k
  lia
inductive rCat(x:V)(y:V)(H:Hp)(Q:VK):Prop
 |mk (l b xs zs:_) (_:x=.ref l) (_:y=.ref b) (_:H l=some (.lst xs)) (_:H b=some (.lst zs)) (_:xs.length+zs.length<=sizeLine) (_:∀p,H p=none->Q (.ref p) (upd H p<|.lst<|xs++zs))
theorem QW:WH X (binaryOp .Add) rCat:=by
 intro pins s σ H x y v u Q I rx ry h;obtain⟨l,b,xs,zs,rfl,rfl,hH,hB,hz,q⟩:=h;cases rx;cases ry;obtain⟨z,XT,n,r,hl,e⟩:=I.lstM hH;obtain⟨z2,VT,n2,r2,SD,e2⟩:=I.lstM hB;refine PySem.P.add_list e e2 ?_ (by rw[Yc,Yc];omega);have ea:XT.toArray++VT.toArray=(XT++VT).toArray:=S
 rw[ea];exact⟨.ref _,_,I.lnew (t':=s.toks) (r.append r2) (by rw[Xu];omega),Z,q _ I.fresh⟩
inductive rRep(x:V)(y:V)(H:Hp)(Q:VK):Prop
 |mk (l k xs:_) (_:x=.ref l) (_:y=.int k) (_:H l=some (.lst xs)) (_:-(2^63)<=k) (_:k<2^63) (_:xs.length*k.toNat<=sizeLine) (_:∀p,H p=none->Q (.ref p) (upd H p<|.lst (List.replicate k.toNat xs).flatten))
theorem DJ{α:Type}(xs:List α)(k:Nat):(List.replicate k xs).flatten.length=k*xs.length:=by
 induction k with
 |zero=>simp
 |succ k ih=>rw[JX,EY,Xu,ih,Nat.succ_mul,Nat.add_comm]
theorem DI:WH X (binaryOp .Mult) rRep:=by
 intro pins s σ H x y v u Q I rx ry h;obtain⟨l,k,xs,rfl,rfl,hH,h1,h2,hz,q⟩:=h;cases rx;obtain⟨t,rfl⟩:=ry;obtain⟨z,XT,n,r,hl,e⟩:=I.lstM hH;have hlen:XT.toArray.size*k.toNat<=sizeLine:=by rwa[Yc,<-hl]
 have sy:¬XT.toArray.size*k.toNat>(2^63-1)/8:=by
  have:(sizeLine:Nat)<=(2^63-1)/8:=uB
  grind
 have sv:¬(!Builtin.List.listFitsIndex k)=true:=by rw[fitsIndex_both h1 h2];exact Yy
 have Po:¬Builtin.List.listTooLong (XT.toArray.size*k.toNat)=true:=by rw[DL hlen];exact Yy
 have QV:List.foldl (λx1 x2=>x1++x2) #[] (List.replicate (if XT.toArray.isEmpty=true then 0 else k.toNat) XT.toArray)=(List.replicate k.toNat XT).flatten.toArray:=by
  have f0:∀m:Nat,List.foldl (λx1 x2=>x1++x2) #[] (List.replicate m XT.toArray)=(List.replicate m XT).flatten.toArray:=λm=>by
   have:=fh XT m []
   rwa[Ng]at this
  rw[f0];cases XT with
  |nil=>simp
  |cons a r'=>rw[if_neg S]
 refine wpAny_binaryOp_repeat_ref (T:="list") (U:="int") uB ⟨_,e,Z⟩ (λs'=>typeIs_int s' k t) noFill_list_mul F.fills_int_mul F.slot_int_rmul repeat_list F.slot_int_index.lookup
  (NM F.slot_int_rmul (typeIs_int s k t) F.entry_int_rmul (F.args_int_rmul_2 _ _) (int___rmul___int_list k t l XT.toArray n)
   ⟨e,Z,⟨_,e,Z⟩,NM F.slot_list_mul ⟨_,e,Z⟩ F.entry_list_mul (F.args_list_mul_2 _ _) (AutoListH.list___mul___list_int_3 l XT.toArray n k t sv sy Po) ⟨e,?_⟩⟩)
 rw[QV];exact⟨.ref _,_,I.lnew (t':=s.toks) (r.rep k.toNat) (by rwa[DJ,MX]),Z,q _ I.fresh⟩
end
section
variable{κ:Type}[DecidableEq κ]
def Wq(kvs:List (κ×V))(k:κ):Option V:=(kvs.find? λkv=>decide<|kv.1=k).map (·.2)
def putK(kvs:List (κ×V))(k:κ)(v:V):List (κ×V):=
 if (kvs.any λkv=>decide<|kv.1=k)=true then kvs.map (λkv=>if kv.1=k then (kv.1,v) else kv) else kvs++[(k,v)]
theorem su{p:κ×V}{r:List (κ×V)}(e:p.1=k):Wq (p::r) k=some p.2:=by simp[Wq,yP,e]
theorem sr{p:κ×V}(e:¬p.1=k):Wq (p::r) k=Wq r k:=by simp[Wq,yP,e]
theorem ff(k:κ):∀kvs:List (κ×V),(kvs.any λkv=>decide (kv.1=k))=(Wq kvs k).isSome
 |[]=>rfl
 |p::r=>by
  rw[ES];by_cases e:p.1=k
  .simp only[su e,Yp e,Bool.true_or,Option.isSome_some]
  .rw[sr e,YR e,Bool.false_or];exact ff k r
theorem sq(kvs:List (κ×V))(k:κ)(v:V):(putK kvs k v).length<=kvs.length+1:=by
 unfold putK;split
 .rw[Yb];lia
 .rw[Xu,Yt,Nf];lia
theorem so{kvs:List (κ×V)}{k:κ}(v:V)(h:Wq kvs k=none):putK kvs k v=kvs++[(k,v)]:=by unfold putK;rw[ff,h];exact if_neg uB
theorem KV.val(r:KV kvs vs)(k:κ):RelO (Wq kvs k) (valueAt vs k):=by
 unfold KV at r
 induction r with
 |nil=>exact True.intro
 |@cons p q ps qs h t ih=>
  obtain⟨h1,h2⟩:=h;by_cases e:p.1=k
  .have e':q.1=k:=h1.symm.trans e;have b:valueAt (q::qs) k=some q.2:=by simp[valueAt,yP,e']
   rwa[su e,b]
  .have e':¬q.1=k:=λz=>e (h1.trans z);have b:valueAt (q::qs) k=valueAt qs k:=by simp[valueAt,yP,e']
   rwa[sr e,b]
theorem KV.any(r:KV kvs vs)(k:κ):(kvs.any λkv=>decide (kv.1=k))=vs.any λkv=>decide (kv.1=k):=by
 unfold KV at r
 induction r with
 |nil=>rfl
 |cons h t ih=>rw[ES,ES,ih,h.1]
theorem KV.repl(r:KV kvs vs)(k:κ)(ry:RelV y u):
  KV (kvs.map λkv=>if kv.1=k then (kv.1,y) else kv) (vs.map λkv=>if kv.1=k then (kv.1,u) else kv):=by
 unfold KV at r ⊢
 induction r with
 |nil=>exact .nil
 |@cons p q ps qs h t ih=>
  rw[UI,UI];refine .cons ?_ ih;obtain⟨h1,h2⟩:=h;by_cases e:p.1=k
  .rw[if_pos e,if_pos (h1.symm.trans e)];exact⟨h1,ry⟩
  .rw[if_neg e,if_neg λz=>e (h1.trans z)];exact⟨h1,h2⟩
theorem KV.put(r:KV kvs vs)(k:κ)(ry:RelV y u):KV (putK kvs k y) (stored vs k u):=by
 unfold putK stored;rw[r.any k];by_cases e:(vs.any λkv=>decide<|kv.1=k)=true
 .rw[if_pos e,if_pos e];exact r.repl k ry
 .rw[if_neg e,if_neg e];exact Paired.snoc r ⟨Z,ry⟩
theorem KV.length{kvs:List (κ×V)}{vs:List (κ×Value)}(r:KV kvs vs):kvs.length=vs.length:=Paired.length r
end
theorem sj(r:RelV (kV k) u):(Rf P w).is k u=true:=by
 cases k with
 |inl i=>obtain⟨t,e⟩:=(show ∃t,u=Value.int i t from r);subst e;exact Zaf P w i t
 |inr x=>obtain⟨t,e⟩:=(show ∃t,u=Value.str x t from r);subst e;exact Zag P w x t
section
variable{P:Program}{w:World}{H:Hp}{h:Heap}{a:Addr}
theorem si(ok:HOk P w H h)(e:Rd H a u):ObjOk P w H h a u:=e.ok ok
theorem sf(ok:HOk P w H h)(e:Rd H a (.dK kvs)):kvs.length<=sizeLine/\(a == sysModules)=false/\∃vs,KV kvs vs/\h.DictOf (Rf P w) a vs:=
 show ObjOk P w H h a (.dK kvs) from si ok e
theorem Jg(ok:HOk P w H h)(e:H a=some (.dK kvs)):kvs.length<=sizeLine/\(a == sysModules)=false/\∃vs,KV kvs vs/\h.DictOf (Rf P w) a vs:=sf ok (.inl e)
end
section
variable{X:Cx}{pins:List (Addr×Obj)}{σ:St}{H:Hp}{s:Shared}{a:Addr}
theorem Inv.big(I:Inv X pins σ H s):sysModules<s.heap.objs.size:=by have h:mainGlobals<s.heap.objs.size:=(I.mod.glob.keeps I.bk).lt;exact Nat.lt_trans uB h
theorem sd{t':Nat}(I:Inv X pins σ H s)(mu:EC (H a))(hs:Heap.SameBut a s.heap h')(he:∃q,h'.get? a=some q)(new:ObjOk X.prog X.w (upd H a ob) h' a ob):
  Inv X pins σ (upd H a ob) {s with heap:=h',toks:=t'}:=
 I.write (x:=a) (e:=a) mu (.inl Z) (λb q hb z=>(hs.2 b hb).trans z) he new
theorem r9(z:kvs.length<=sizeLine)(hd:(a == sysModules)=false)(rel:KV kvs vs)(dd:h'.DictOf (Rf P w) a vs):
  ObjOk P w H' h' a (.dK kvs):=⟨z,hd,vs,rel,dd⟩
end
theorem r6(h:Heap)(hb:sysModules<h.objs.size):ObjOk P w H (h.push {cls:=.type "dict",data:=.dict #[]}) h.objs.size (.dK []):=
 ⟨Yj _,Fe.mpr<|XI<|YB hb,[],.nil,Heap.DictOf.new h⟩
def DH:TE:=λ_ H Q=>∀p,H p=none->Q (.ref p) (upd H p<|.dK [])
section
variable{X:Cx}{pos:Pos}
theorem rZ:PE X (.Dict [] [] pos) DH:=λpins s σ H Q I h=>
 wpAny_Dict_empty ⟨.ref s.heap.objs.size,_,I.laid (a:=s.heap.objs.size) (o:=.dK []) (t':=s.toks) (λ_ _ q=>Xc _ q) (XJ _)<|r6 s.heap I.big,Z,h _<|I.hok.fresh<|XJ _⟩
end
structure M1(X:Cx)(o:Expr)(m:Str)(apos:Pos)(e:Expr)(WU:Pos):Prop where
 base:attributeBase o m X.env (eval o X.env)=eval o X.env
 few:((backTo WU<|starEach [e] X.env).all (λx=>!x.1)&&(backToKw WU<|keywordEach [] X.env).all (λx=>x.1.isSome)
  && decide (([e]:List Expr).length+([]:List Keyword).length+(if ([]:List Keyword).isEmpty then 0 else 1)<30))=true
 line:(apos.endLine == WU.line)=true
 trees:backTo WU (starEach [e] X.env)=[(false,eval e X.env)]
structure M2(X:Cx)(o:Expr)(m:Str)(apos:Pos)(e f:Expr)(WU:Pos):Prop where
 base:attributeBase o m X.env (eval o X.env)=eval o X.env
 few:((backTo WU<|starEach [e,f] X.env).all (λx=>!x.1)&&(backToKw WU<|keywordEach [] X.env).all (λx=>x.1.isSome)
  && decide (([e,f]:List Expr).length+([]:List Keyword).length+(if ([]:List Keyword).isEmpty then 0 else 1)<30))=true
 line:(apos.endLine == WU.line)=true
 trees:backTo WU (starEach [e,f] X.env)=[(false,eval e X.env),(false,eval f X.env)]
end L2
namespace Att
open PySem PySem.W PySem.Calls PyProof.Rows
theorem rY:∀(ns:Ac)(vs:Ag),WellAll P h vs (ns.map WData.int)->IntsAre vs ns:=by
 intro ns
 induction ns with
 |nil=>
  intro vs w;rw[List.map_nil]at w;cases w;exact .nil
 |cons n ns ih=>
  intro vs w;rw[UI]at w;cases w with
  |cons a b=>
   cases a;exact .cons _ _ (ih _ b)
theorem Zn8{l:OpenLaw}{n:Nat}(hn:l.most=some n) 
  (ML:l.row.toRowW.claim.pre args=true)(DG:WellAll P h vals args):
  ∃a vs ns,vals=[Value.ref a]/\args=[WData.list (ns.map WData.int)]/\h.get? a=some {cls:=.type "list",data:=.seq vs.toArray}/\IntsAre vs ns/\ns.length<=n:=by
 have hsh:WShape.hasAll [] args [.list .int]=true:=(pre_splitW ML).1;have hc:l.pre.holds [] {args:=args}=true:=(pre_splitW ML).2
 obtain⟨d,r,rfl,h1,h2⟩:=hasAllW_cons hsh;obtain rfl:=hasAllW_nil h2;obtain⟨xs,rfl,h3⟩:=hasW_list h1;obtain⟨ns,rfl⟩:=items_int h3;have hlen:ns.length<=n:=by
  unfold OpenLaw.pre at hc;have h4:(WTm.not<|.lt (.lit<|.int (n:Int))<|.len<|.arg 0).holds [] {args:=[.list (ns.map .int)]}=true:=by have h4:=(holds_andW hc).1;rwa[hn]at h4
  have h5:=condW_of h4 (w_not<|w_lt w_lit<|w_len_list<|w_arg Z);rw[Yb]at h5;refine yV λq=>?_;have q':(n:Int)<((ns.length:Nat):Int):=uD
  first
   | (rw[Yp q']at h5;exact absurd h5 uB)
   | (simp at h5;omega)
 cases DG with
 |cons w1 w2=>
  cases w2;cases w1 with
  |list ho Wg=>exact⟨_,_,ns,Z,Z,ho,rY ns _ Wg,hlen⟩
theorem Zu8(l:OpenLaw)(args:List WData):l.row.toRowW.claim.post args (.bool true) args=true:=
 postW_of (r:=l.row.toRowW) (X:=(true == true))
  (show WShape.has [] (.bool true) .bool=true by first|rfl|decide|simp[WShape.has,WShape.arms,WShape.armsAll])
  (show(WTm.eq .res<|.lit<|.bool true).value [] {args:=args,res:=some<|.bool true,after:=args}=some (.bool<|true == true) from w_eq_bool (w_res Z) w_lit) rfl
theorem Tj{l:OpenLaw}{n:Nat}{XP:Af->Heap->Prop}{YP:World->Heap->Prop} 
  (hn:l.most=some n)(rX:d.params.defaults=[])
  (call:∀(w:World)(s₀ s₁:Shared)(mg mb:Af)(fa:Addr)(o:Obj)(pm cd doc:Value)(a:Addr)(vs:Ag)(ns:Ac),
   Ground q loose [] XP w s₀ mg mb s₁.heap->YP w s₁.heap->
   s₁.heap.get? fa=some o->o.data=.func (docDef d.name d.params d.body d.scope pm cd doc)->s₁.heap.CodeRec cd d.name->mg d.name=some (.ref fa)->
   s₁.heap.get? a=some {cls:=.type "list",data:=.seq vs.toArray}->IntsAre vs ns->ns.length<=n->s₁.gens=#[]->
   codeAny (model l.prog w) callerA (.call (.ref fa) ⟨[.ref a],[]⟩) (λr s'=>r=.ok (.ret<|.bool true)/\OldK s₁.heap s'.heap/\s'.os=s₁.os/\AllBare s'.gens) s₁):
  WalkO q loose XP YP l.row.toRowW d [] (λf vs=>PySem.call f vs):=by intro w s₀ s₁ mg mb G Y fa o pm cd doc dV kV ho hd SJ hD DF hg args vals as ML hlay rW DG hlo;obtain rfl:dV=.none:=Dflts.none hD rX;obtain rfl:kV=.none:=Dflts.noKw hD;obtain⟨a,vs,ns,rfl,rfl,Jf,hints,hlen⟩:=Zn8 hn ML DG;refine enter_call (Ly (call w s₀ s₁ mg mb fa o pm cd doc a vs ns G Y ho (fd_plain hd) SJ DF Jf hints hlen hg) λr s' hq=>?_);obtain⟨rfl,h2,h3,h4⟩:=hq;exact⟨.inl ⟨.bool true,.bool true,[],Z,λ_=>rfl,.bool true,Zu8 l _,λ_=>⟨List.Pairwise.nil,λ_ hm=>(nomatch hm)⟩⟩,h2,h3,h4⟩
section
def Zu15(h:Heap)(L d:Addr):List (Addr×Obj):=(List.range h.objs.size).filterMap λa=>if a=L\/a=d then none else (h.get? a).map λo=>(a,o)
end
end Att
namespace L2
open PySem PySem.Spec PyProof.Rows
theorem Za8{vs:Ag}{ns:Ac}(h:IntsAre vs ns):Vals (ns.map V.int) vs:=by
 induction h with
 |nil=>exact .nil
 |cons n t h ih=>exact .cons ⟨t,Z⟩ ih
abbrev Lf{K:Ad}{h:Heap}(_:K.In h):Ad:=K
def fe(s:Stmt)(j:Nat):Stmt:=match s with
 | .ClassDef _ _ _ body _ _ _ _ _ _ _=>body.getD j (.Pass ⟨0,0,0,0⟩)
 |_=>.Pass ⟨0,0,0,0⟩
def Le(s:Stmt):Arguments:=match s with
 | .FunctionDef _ a _ _ _ _ _ _ _ _=>a
 |_=>{posonlyargs:=[],args:=[],vararg:=none,kwonlyargs:=[],kw_defaults:=[],kwarg:=none,defaults:=[]}
def QU(s:Stmt):List Stmt:=match s with
 | .FunctionDef _ _ b _ _ _ _ _ _ _=>b
 |_=>[]
def Xt(s:Stmt):Scope:=match s with
 | .FunctionDef _ _ _ _ _ _ sc _ _ _=>sc
 |_=>{kind:=.function,names:=[],isGenerator:=false,isCoroutine:=false}
abbrev Xo:Qn:=λ_ _ _ _ _ _=>False
abbrev E0:XK:=λ_ _ _=>False
theorem Zs:Gr Xo X E0:=λ_ _ _ _ _ _ _ h=>h.elim
structure Fun(K:Ad)(x qual:Str)(st:Stmt)(f:Addr)(fd:FuncData):Prop where
 ex:∃(oc:Value)(od:Option Addr)(kV doc pm:Value)(an:Option Addr)(XC ct:Value)(Tz:Array (Option Value)),
  fd=PySem.W.fnOf x qual (Le st) (QU st) (Xt st) .none kV doc pm an XC ct/\K.lookup f=some ⟨oc,od,.func fd,Tz⟩/\PySem.W.codeIn K XC qual=true
 kp:PySem.W.keepIn K (.ref f)=true
section
variable{P:Program}{w:World}{K:Ad}{mg:Af}{base:Heap}
theorem Fun.ok{x qual:Str}{st:Stmt}{f:Addr}{fd:FuncData}{N ps:List Str}{k:Nat}{sp:Sp}(F:Fun K x qual st f fd)(uz:FnScope N ps (Xt st))(len:∀vs H Q E,sp vs H Q E->vs.length=ps.length)
  (VV:∀(XC:Value)(A:Around)(outer:List Env)(s:Shared)(H:Hp)(vs:List V)(Q:VK)(E:XK),Room k (A.deeper<|envOfC qual (Xt st) s.heap.objs.size f XC)->sp vs H Q E->
   ∃t,PSs (Ua Xo P w K mg base N qual (Xt st) f XC A outer s H E).nox (QU st) t/\t {nx:=λ_ H'=>Q .non H',rt:=Q} (start N vs) H):FnOk P w K mg base Xo (k+1) f fd ps sp:=by obtain⟨oc,od,kV,doc,pm,an,XC,ct,Tz,rfl,lk,SJ⟩:=F.ex;refine Lj lk SJ uz len λA outer s H vs Q E hr UB=>?_;obtain⟨t,h,q⟩:=VV XC A outer s H vs Q E hr UB;exact⟨t,h.nox,q⟩
theorem Fun.binds{x qual:Str}{st:Stmt}{f:Addr}{fd:FuncData}{ps:List Str}(F:Fun K x qual st f fd)
  (h:∀(kV doc pm:Value)(an:Option Addr)(XC ct:Value)(us:Ag),us.length=ps.length->bindArgs (PySem.W.fnOf x qual (Le st) (QU st) (Xt st) .none kV doc pm an XC ct) ⟨us,[]⟩=pure (ps.zip us)):Binds K fd ps []:=by obtain⟨oc,od,kV,doc,pm,an,XC,ct,Tz,rfl,lk,SJ⟩:=F.ex;exact .all (h kV doc pm an XC ct)
theorem MK{x qual:Str}{st:Stmt}{f:Addr}{oc:Value}{od an:Option Addr}{Tz:Array (Option Value)}{kV doc pm XC ct:Value}(l:K.lookup f=some ⟨oc,od,.func (PySem.W.fnOf x qual (Le st) (QU st) (Xt st) .none kV doc pm an XC ct),Tz⟩)
  (c:PySem.W.codeIn K XC qual=true)(k:PySem.W.keepIn K (.ref f)=true):Fun K x qual st f (PySem.W.fnOf x qual (Le st) (QU st) (Xt st) .none kV doc pm an XC ct):=⟨⟨oc,od,kV,doc,pm,an,XC,ct,Tz,Z,l,c⟩,k⟩
end
section
variable{X:Cx}
theorem pv(i:Nat){x:Str}{pos:Pos}(hN:X.N[i]?=some x:=by rfl)(hv:yB X.env.scope x:=by first|exact Or.inl rfl|exact Or.inr (Or.inl rfl)|exact Or.inr<|Or.inr rfl)(hd:(x == ("__debug__":Str))=false:=by decide)
  (SJ:(x == ("__classdict__":Str))=false:=by decide):PE X (.Name x pos) (tVar i):=Zal hN hv hd SJ
end
theorem Vq{A uw:Prop}(h:uw):if false=true then A else uw:=by rwa[if_neg Yy]
theorem Wb{A uw:Prop}(h:A):if true=true then A else uw:=by rwa[if_pos Z]
theorem DE{c A uw:Prop}[Decidable c](h1:c->A)(h2:¬c->uw):if c then A else uw:=by
 by_cases h:c
 .rw[if_pos h];exact h1 h
 .rw[if_neg h];exact h2 h
def Same(H H':Hp):Prop:=∀b o,H b=some o->H' b=some o
theorem Same.refl(H:Hp):Same H H:=λ_ _ h=>h
theorem Same.trans{H H1 H2:Hp}(a:Same H H1)(b:Same H1 H2):Same H H2:=λc o h=>b c o (a c o h)
theorem Same.free(e:Same H H'){l:Addr}(h:H' l=Option.none):H l=Option.none:=by
 cases q:H l with
 |none=>rfl
 |some o=>
  rw[e l o q]at h;cases h
theorem Same.seq{K:Ad}{H H':Hp}{a:Addr}{xs:List V}(e:Same H H')(h:SqL K H a xs):SqL K H' a xs:=by
 rcases h with (h|⟨o,h⟩)|h
 .exact .inl (.inl<|e _ _ h)
 .exact .inl (.inr ⟨o,e _ _ h⟩)
 .exact .inr h
def DD(X:Cx)(ifs:List Expr)(t:TT):Prop:=
 ∀pins s σ H Q,Inv X pins σ H s->t σ H Q->
  wpAny (model X.prog X.w) X.A (forIn ifs true λc r=>if r=true then do let ok <-isTrue c X.env (eval c X.env);pure (ForInStep.yield ok) else pure (ForInStep.yield r)) (TP X pins σ Q) X.xe s
def tYes:TT:=λ_ H Q=>Q true H
theorem ZR:DD X [] tYes:=λ_ _ _ H _ I h=>wpAny_tests_nil ⟨H,I,h⟩
theorem Qm(hc:PT X c t):DD X [c] t:=λpins s σ H Q I h=>wpAny_tests_one (hc pins s σ H Q I h)
theorem ZP4{R:Result->Shared->Prop}{elt target iter:Expr}{scope:Scope}{pos:Pos}{it acc:Value}(AP:Nat->Shared->Prop)
  (turn:∀n s,AP n s->wpAny (model prog w) A (pyNext it) (λr s1=>match r with
   |none=>R (.ok .next) s1
   |some v=>wpAny (model prog w) A (letOwnedTupleGo target it v) (λ_ s2=>wpAny (model prog w) A (assign target env v) (λ_ s3=>
     wpAny (model prog w) A (forIn ifs true λc r=>if r=true then do let ok <-isTrue c env (eval c env);pure (ForInStep.yield ok) else pure (ForInStep.yield r)) (λok s4=>
      if ok=true then wpAny (model prog w) A (eval elt env) (λx s5=>
       wpAny (model prog w) A (call (.builtin "list.append") [acc,x]) (λ_ s6=>∃m,m<n/\AP m s6) (λ_ _=>False) s5) (λ_ _=>False) s4
      else ∃m,m<n/\AP m s4) (λ_ _=>False) s3) (λ_ _=>False) s2) (λ_ _=>False) s1) (λ_ _=>False) s)
  (n:Nat)(h:AP n s):codeAny (model prog w) A (.compLoop (.ListComp elt [⟨target,iter,ifs,0⟩] scope pos) 0 it acc env) R s:=by
 refine codeAny_loop Z AP (λn s hI=>?_) n h;show wpAny _ A ((compTurn (.ListComp elt [⟨target,iter,ifs,0⟩] scope pos) 0 it acc env).onRaise λx=>do noteFrame x env;theTreesLotGoes x) _ _ s
 refine wpAny_noted ?_;rw[compTurn_list];refine XU (wpAny_standAt<|XU<|SK (turn n s hI) (λr s1 h1=>?_) λ_ _ z=>z.elim);cases r with
 |none=>exact Ym h1
 |some v=>
  refine XU (SK h1 (λ_ s2 h2=>?_) λ_ _ z=>z.elim);refine XU (SK h2 (λ_ s3 h3=>XU<|SK h3 (λok s4 h4=>?_) λ_ _ z=>z.elim) λ_ _ z=>z.elim);cases ok with
  |false=>exact Ym ⟨Z,h4⟩
  |true=>
   exact XU (XU<|SK h4 (λx s5 h5=>XU<|SK h5 (λ_ s6 h6=>Ym<|Ym ⟨Z,h6⟩) λ_ _ z=>z.elim) λ_ _ z=>z.elim)
def RL(cells:List (Str×Addr)):List (Str×NameKind)->List (Str×Addr)->List (Str×Addr)
 |[],acc=>acc
 | (n,k)::r,acc=>if k == .free then RL cells r ((n,(cells.lookup n).getD 0)::acc) else RL cells r acc
theorem fc:∀names acc,(∀y∈names,y.2=.free->∃c,env.cells.lookup y.1=some c)->
  (forIn names acc λ(x:Str×NameKind) (cs:List (Str×Addr))=>(if (x.2 == .free)=true then do let a <-cellOf env x.1;pure (ForInStep.yield<|(x.1,a)::cs) else pure (ForInStep.yield cs):Sem (ForInStep<|List<|Str×Addr)))=pure (RL env.cells names acc)
 |[],acc,_=>rfl
 | (n,k)::r,acc,h=>by
  have ih:=λacc=>fc r acc λy hy=>h y (Yf _ hy);rw[List.forIn_cons];unfold RL;by_cases hk:(k == NameKind.free)=true
  .obtain⟨c,hc⟩:=h (n,k) Xd (by simpa using hk);have e:cellOf env n=pure c:=by unfold cellOf;rw[show env.cells.lookup n=some c from hc]
   simp only[hk,NL,e,pure_bind];rw[ih,show env.cells.lookup n=some c from hc];rfl
  .simp only[hk,Fc,Sr,pure_bind];exact ih acc
theorem ZZ7(h:∀y∈scope.names,y.2=.free->∃c,env.cells.lookup y.1=some c):closureFor scope env=pure (RL env.cells scope.names []):=by have e:=fc scope.names [] h;unfold closureFor;simp only[bind_pure]at e ⊢;exact e
theorem rT{env:Env}:∀names acc,(∀y∈names,y.2=.free->∃c,env.cells.lookup y.1=some c)->(∀x c,acc.lookup x=some c->env.cells.lookup x=some c)->
  ∀x c,(RL env.cells names acc).lookup x=some c->env.cells.lookup x=some c
 |[],acc,_,ha,x,c,e=>ha x c e
 | (n,k)::r,acc,h,ha,x,c,e=>by
  unfold RL at e;by_cases hk:(k == NameKind.free)=true
  .rw[if_pos hk]at e;obtain⟨d,hd⟩:=h (n,k) Xd (by simpa using hk);refine rT r _ (λy hy=>h y<|Yf _ hy) (λy b q=>?_) x c e;rw[LG]at q;by_cases hy:(y == n)=true
   .rw[hy]at q;have Je:y=n:=by simpa using hy
    have Gw:env.cells.lookup n=some d:=hd;rw[Gw]at q;have q':d=b:=Ye q
    rw[Je,Gw,q']
   .have Je:(y == n)=false:=by simpa using hy
    rw[Je]at q;exact ha y b q
  .rw[if_neg hk]at e;exact rT r acc (λy hy=>h y<|Yf _ hy) ha x c e
theorem rS:∀names acc x,(acc.lookup x).isSome=true->((RL cells names acc).lookup x).isSome=true
 |[],_,_,h=>h
 | (n,k)::r,acc,x,h=>by
  unfold RL;by_cases hk:(k == NameKind.free)=true
  .rw[if_pos hk];refine rS r _ x ?_;rw[LG];by_cases hx:(x == n)=true
   .rw[hx];rfl
   .have UA:(x == n)=false:=by simpa using hx
    rwa[UA]
  .rw[if_neg hk];exact rS r acc x h
theorem x9:∀names acc x,(x,NameKind.free)∈names->((RL cells names acc).lookup x).isSome=true
 |[],_,_,h=>nomatch h
 | (n,k)::r,acc,x,h=>by
  unfold RL;rcases Yg.mp h with e|h
  .cases e;rw[if_pos uG];refine rS r _ _ ?_;rw[LG];simp
  .by_cases hk:(k == NameKind.free)=true
   .rw[if_pos hk];exact x9 r _ x h
   .rw[if_neg hk];exact x9 r _ x h
theorem MJ{env:Env}:∀{names:List (Str×NameKind)}{x:Str}{k:NameKind},(names.map λ(n,k)=>if (k == NameKind.free&&env.scope.kind == .function&&env.kindOf n == some .cell) then (n,NameKind.cell) else (n,k)).lookup x=some k->
  (k=.cell\/k=.free)->(x,NameKind.free)∈names\/(x,NameKind.cell)∈names
 |[],_,_,h,_=>by simp at h
 | (n,q)::r,x,k,h,hk=>by
  have h':List.lookup x ((if (q == NameKind.free&&env.scope.kind == .function&&env.kindOf n == some .cell)=true then (n,NameKind.cell) else (n,q))::r.map λ(n,k)=>if (k == NameKind.free&&env.scope.kind == .function&&env.kindOf n == some .cell) then (n,NameKind.cell) else (n,k))=some k:=h;by_cases hc:(q == NameKind.free&&env.scope.kind == .function&&env.kindOf n == some .cell)=true
  .rw[if_pos hc,LG]at h';have hq:q=.free:=by simp only[JU,VE]at hc;exact hc.1.1
   by_cases hx:(x == n)=true
   .have UA:x=n:=by simpa using hx
    subst UA;subst hq;exact .inl Xd
   .have UA:(x == n)=false:=by simpa using hx
    rw[UA]at h';rcases MJ (env:=env) h' hk with z|z
    .exact .inl (Yf _ z)
    .exact .inr (Yf _ z)
  .rw[if_neg hc,LG]at h';by_cases hx:(x == n)=true
   .rw[hx]at h';have UA:x=n:=by simpa using hx
    subst UA;have e:q=k:=Ye h'
    subst e;rcases hk with rfl|rfl
    .exact .inr Xd
    .exact .inl Xd
   .have UA:(x == n)=false:=by simpa using hx
    rw[UA]at h';rcases MJ (env:=env) h' hk with z|z
    .exact .inl (Yf _ z)
    .exact .inr (Yf _ z)
theorem Jd{env:Env}:∀{names:List (Str×NameKind)}{x:Str},names.lookup x=some .free->
  (names.map λ(n,k)=>if (k == NameKind.free&&env.scope.kind == .function&&env.kindOf n == some .cell) then (n,NameKind.cell) else (n,k)).lookup x=some .cell\/
  (names.map λ(n,k)=>if (k == NameKind.free&&env.scope.kind == .function&&env.kindOf n == some .cell) then (n,NameKind.cell) else (n,k)).lookup x=some .free
 |[],_,h=>by simp at h
 | (n,q)::r,x,h=>by
  show List.lookup x ((if (q == NameKind.free&&env.scope.kind == .function&&env.kindOf n == some .cell)=true then (n,NameKind.cell) else (n,q))::_)=_\/List.lookup x ((if (q == NameKind.free&&env.scope.kind == .function&&env.kindOf n == some .cell)=true then (n,NameKind.cell) else (n,q))::_)=_;rw[LG]at h;by_cases hc:(q == NameKind.free&&env.scope.kind == .function&&env.kindOf n == some .cell)=true
  .rw[if_pos hc,LG];by_cases hx:(x == n)=true
   .rw[hx];exact .inl rfl
   .have UA:(x == n)=false:=by simpa using hx
    rw[UA]at h ⊢;exact Jd h
  .rw[if_neg hc,LG];by_cases hx:(x == n)=true
   .rw[hx]at h ⊢;exact .inr h
   .have UA:(x == n)=false:=by simpa using hx
    rw[UA]at h ⊢;exact Jd h
def Up(X:Cx)(N':List Str)(scope:Scope)(C:Addr)(s:Shared)(H:Hp)(fp:List Addr):Cx where
 prog:=X.prog
 w:=X.w
 K:=X.K
 mg:=X.mg
 base:=X.base
 A:=X.A
 N:=N'
 s₀:=s
 H₀:=H
 env:=compEnvC scope (RL X.env.cells scope.names []) C X.env
 outer:=X.stack
 stack:=X.stack
 ex:=fp
 fn:=λ_=>false
 calm:=X.calm
 pn:=[]
 xe:=λ_ _=>False
def σC(o:Nat)(fr:List Nat)(σ:St):St:=List.replicate o none++fr.map λj=>(σ[j]?).join
structure CompScope(sc0:Scope)(N N':List Str)(o:Nat)(fr:List Nat)(scope:Scope):Prop where
 kind:scope.kind=.function
 nocell:(scope.names.all λy=>y.2 != .cell)=true
 loc:(scope.names.all λy=>y.2 != .local||scope.names.lookup y.1 == some .local)=true
 free:(scope.names.all λy=>y.2 != .free||sc0.names.lookup y.1 == some .cell||sc0.names.lookup y.1 == some .free)=true
 len:N'.length=o+fr.length
 sees:((List.range fr.length).all λj=>match fr[j]? with
  |none=>false
  |some y=>match N[y]? with
   |none=>false
   |some x=>N'[o+j]? == some x&&scope.names.lookup x == some .free)=true
def MI(AP:It)(g:TG)(tt:TT)(te:TE)(o:Nat)(fr:List Nat)(σ:St)(H1:Hp)(Q:VK):Prop:=∃W:Nat->Nat->List V->Hp->Prop,(∃m,W 0 m [] H1)/\∀i m ys H,W i m ys H->
 (AP.stop i H/\ys.length<=sizeLine/\∀p,H p=none->Q (.ref p) (upd H p<|.lst ys))\/
 (AP.go i H/\ys.length<sizeLine/\∀x H',AP.yld i H x H'->g x (σC o fr σ) H' λσ2 H2=>tt σ2 H2 λb H3=>if b=true then te σ2 H3 λy H4=>∃m',m'<m/\W (i+1) m' (ys++[y]) H4 else ∃m',m'<m/\W (i+1) m' ys H3)
def rR(wi:TI)(g:TG)(tt:TT)(te:TE)(o:Nat)(fr:List Nat):TE:=λσ H Q=>wi σ H λAP H1=>MI AP g tt te o fr σ H1 Q
def Pn(o:Nat)(g:TG):Prop:=∀x ow fr H Q,ow.length=o->g x (ow++fr) H Q->g x (ow++fr) H λσ2 H2=>(∃DC,DC.length=o/\σ2=DC++fr)/\Q σ2 H2
theorem Zt(h:i<o):Pn o (Ls i):=λx ow fr H Q hl q=>⟨⟨ow.set i<|some x,by rw[Tp];exact hl,by rw[List.set_append_left _ _ J]⟩,q⟩
def RJ(o:Nat)(g:MV):Prop:=∀xs ow fr H Q,ow.length=o->g xs (ow++fr) H Q->g xs (ow++fr) H λσ2 H2=>(∃DC,DC.length=o/\σ2=DC++fr)/\Q σ2 H2
theorem Pm:RJ o Eo:=λ_ ow _ _ _ hl zz=>by obtain⟨e,q⟩:=zz;exact⟨e,⟨ow,hl,Z⟩,q⟩
theorem NH(h:i<o)(h2:RJ o u):RJ o (Lr (Ls i) u):=by
 rintro xs ow fr H Q hl ⟨v,r,rfl,q⟩;refine⟨v,r,Z,?_⟩;have q':u r ((ow++fr).set i (some v)) H Q:=q
 show u r ((ow++fr).set i (some v)) H _;rw[List.set_append_left _ _ uD]at q' ⊢;exact h2 r (ow.set i<|some v) fr H Q (by rwa[Tp]) q'
theorem Pl{K:Ad}{o n:Nat}{u:MV}(h:RJ o u):Pn o (Jx K n u):=by rintro x ow fr H Q hl ⟨a,xs,rfl,hs,hn,q⟩;exact⟨a,xs,Z,hs,hn,h xs ow fr H Q hl q⟩
section
variable{X:Cx}{pins:List (Addr×Obj)}{σ:St}{H:Hp}{s:Shared}{N':List Str}{o:Nat}{fr:List Nat}{scope:Scope}{fp:List Addr}
abbrev Uo(us:Ag):Obj:={cls:=.type "list",data:=.seq us.toArray us.length}
theorem CompScope.nocell'(uz:CompScope sc0 N N' o fr scope):∀y∈scope.names,y.2≠.cell:=λy hy e=>by have q:=Ro.mp uz.nocell y hy;rw[e]at q;exact absurd q uB
theorem CompScope.loc'(uz:CompScope sc0 N N' o fr scope):∀y∈scope.names,y.2=.local->scope.names.lookup y.1=some .local:=λy hy e=>by have q:=Ro.mp uz.loc y hy;rw[e]at q;simpa using q
theorem CompScope.free'(uz:CompScope sc0 N N' o fr scope)(hs:X.env.scope=sc0):∀y∈scope.names,y.2=.free->X.env.kindOf y.1=some .cell\/X.env.kindOf y.1=some .free:=λy hy e=>by
 have q:=Ro.mp uz.free y hy;rw[e]at q;show X.env.scope.names.lookup y.1=_\/X.env.scope.names.lookup y.1=_
 rw[hs];simpa using q
theorem CompScope.sees'(uz:CompScope sc0 N N' o fr scope):∀j y,fr[j]?=some y->∃x,N[y]?=some x/\N'[o+j]?=some x/\scope.names.lookup x=some .free:=λj y e=>by
 have hj:j<fr.length:=(Xr.mp e).1;have q:=Ro.mp uz.sees j (YK.mpr hj)
 rw[e]at q;dsimp only at q;cases ex:N[y]? with
 |none=>rw[ex]at q;cases q
 |some x=>
  rw[ex]at q;dsimp only at q;rw[JU,VE,VE]at q;exact⟨x,Z,q.1,q.2⟩
theorem CompScope.cells(uz:CompScope sc0 N0 N' o fr scope)(hs:X.env.scope=sc0)(I:Inv X pins σ H s):∀y∈scope.names,y.2=.free->∃c,X.env.cells.lookup y.1=some c:=λy hy e=>I.ok.has y.1 (uz.free' hs y hy e)
theorem CompScope.sub(uz:CompScope sc0 N0 N' o fr scope)(hs:X.env.scope=sc0)(I:Inv X pins σ H s):∀x c,(RL X.env.cells scope.names []).lookup x=some c->X.env.cells.lookup x=some c:=
 rT (env:=X.env) scope.names [] (uz.cells hs I) (λ_ _ z=>nomatch z)
theorem Inv.block(uz:CompScope sc0 N0 N' o fr scope)(hs:X.env.scope=sc0)(hN:X.N=N0)(I:Inv X pins σ H s)(hf:∀b∈fp,FpOk X pins H b)(NG:∀b∈fp,b<s.heap.objs.size){h1:Heap}{C D:Addr}{m:Af}{t:Nat}
  (hC:s.heap.objs.size<=C)(hD:s.heap.objs.size<=D)(NF:D≠C)
  (old:∀b ob,s.heap.get? b=some ob->h1.get? b=some ob)(hn:h1.Ns C m)(ha:h1.get? D=some (Uo us)):Inv (Up X N' scope C s H fp) [(D,Uo us)] (σC o fr σ) H {s with heap:=h1,toks:=t}:=by
 have sub:=uz.sub hs I;have frC:∀b∈TB X.stack,b<s.heap.objs.size:=λb hb=>by obtain⟨_,ob,ho,_⟩:=I.stack.mem hb;exact Yq ho
 refine⟨⟨I.ok.mod,uz.kind,I.ok.glob,I.ok.blt,hC,λx y c h1 h2=>I.ok.inj x y c (sub x c h1)<|sub y c h2,λx hx=>?_,λx c hfx _=>(nomatch hfx),I.ok.hd,I.ok.frames,.inl Z,λb hb=>?_,I.bs,Yv I.ok.bsz I.sz,λb ob e hb=>?_,λb hb TZ=>?_,I.stack,I.stkFree⟩,
  rfl,I.bare,Un.kept old,⟨m,hn,λi x v e1 e2 e3=>?_⟩,λx c e=>?_,I.hok.fresh hC,λx c e=>I.freeC x c<|sub x c e,λp hp=>?_,I.hok.kept old,?_⟩
 .have UA:(relabel scope X.env).names.lookup x=some .cell\/(relabel scope X.env).names.lookup x=some .free:=hx;have key:(x,NameKind.free)∈scope.names:=by
   rcases UA with z|z
   .rcases MJ (env:=X.env) z (.inl rfl) with q|q
    .exact q
    .exact absurd Z (uz.nocell' _ q)
   .rcases MJ (env:=X.env) z (.inr rfl) with q|q
    .exact q
    .exact absurd Z (uz.nocell' _ q)
  exact JJ.mp (x9 (cells:=X.env.cells) scope.names [] x key)
 .obtain⟨f0,f1,f2,f3,f4,f5⟩:=hf b hb;exact⟨YB<|Yw (NG b hb) hC,λx c e=>f4 x c<|sub x c e⟩
 .obtain⟨f0,f1,f2,f3,f4,f5⟩:=hf b hb;rcases f3 with z|z
  .exact I.ok.noex b ob e z
  .exact absurd (Yw (Yq e)<|Yv I.ok.bsz z) (Sw _)
 .obtain⟨f0,f1,f2,f3,f4,f5⟩:=hf b hb;rcases Yg.mp (I.stkSub b TZ) with z|z
  .exact f1 z
  .exact f2 z
 .unfold σC at e2;by_cases hi:i<o
  .rw[Ys (by rwa[YN]),y8,if_pos hi]at e2;cases e2
  .rw[Yo (by rw[YN];exact Nat.not_lt.mp hi),YN,Yl]at e2;cases hy:fr[i-o]? with
   |none=>rw[hy]at e2;cases e2
   |some y=>
    rw[hy]at e2;have x8:(σ[y]?).join=some v:=Ye e2
    have e3':σ[y]?=some (some v):=by
     cases q:σ[y]? with
     |none=>rw[q]at x8;cases x8
     |some z=>rw[q]at x8;exact Xy some x8
    obtain⟨x',s2,s1,s3⟩:=uz.sees' (i-o) y hy;rw[<-hN]at s2;rw[show o+(i-o)=i by grind]at s1;have ex:x=x':=by have e1':N'[i]?=some x:=e1;rw[e1']at s1;exact Ye s1
    subst ex;have hmem:=JY s3
    obtain⟨m0,_,hl⟩:=I.loc;have hk:=uz.free' hs (x,.free) hmem rfl
    obtain⟨u,ru,lk⟩:=hl y x v s2 e3' (by rcases hk with z|z;exact .inr (.inl z);exact .inr<|.inr z);refine⟨u,ru,.inr ⟨Jd (env:=X.env) s3,?_⟩⟩;obtain⟨c',WI⟩:=JJ.mp (x9 (cells:=X.env.cells) scope.names [] x hmem);refine⟨c',WI,?_⟩;rcases lk with ⟨z,_⟩|⟨_,c,e,ob,ho,hd⟩
    .rcases hk with z'|z'
     .rw[z]at z';cases z'
     .rw[z]at z';cases z'
    .have ec:c=c':=by
      have:=sub x c' WI
      rw[e]at this;exact Ye this
     subst ec;exact⟨ob,old _ _ ho,hd⟩
 .obtain⟨v,ob,ho,hd⟩:=I.cell x c (sub x c e);exact⟨v,ob,old _ _ ho,hd⟩
 .have e:p=(D,Uo us):=by simpa using (show p∈([]:List (Addr×Obj))++[(D,Uo us)] from hp)
  subst e;refine⟨ha,I.hok.fresh hD,NF,λz=>absurd (Yw (frC D z) hD)<|Sw _,λv z=>nomatch z⟩
 .show(σC o fr σ).length=N'.length;unfold σC;rw[Xu,YN,Yb,uz.len]
theorem Inv.unblock(I:Inv X pins σ H s)(hf:∀b∈fp,FpOk X pins H b){σ':St}{s':Shared}(hC:s.heap.objs.size<=C)(hD:s.heap.objs.size<=D)(NF:D≠C)
  (I':Inv (Up X N' scope C s H fp) [(D,Uo us)] σ' H' s')(r:Vals ys us)(hz:ys.length<=sizeLine):∃oC m,s'.heap.get? C=some oC/\s'.heap.Ns C m/\Inv X (pins++[(C,oC)]) σ (upd H' D<|.lst ys) s':=by
 obtain⟨aD,nD,_,_,_⟩:=I'.pin (D,Uo us) S;have aD:s'.heap.get? D=some (Uo us):=aD
 have nD:H' D=none:=nD;have un:Un (TB X.stack) fp H H' s.heap s'.heap:=I'.base
 have lt:∀b u,H b=some u->b≠D:=λb u e=>YB (Yw (I.hok.lt e) hD);have rQ:Un (TB X.stack) fp H (upd H' D<|.lst ys) s.heap s'.heap:=by
  refine⟨un.keep,un.slot,λb ob e n hx=>?_,un.there,λb xs e=>?_,λb ob u e=>?_,λb ps e=>?_⟩
  .rw[Zb (YB<|Yw (Yq e) hD)];exact un.free b ob e n hx
  .rw[Zb (lt b _ e)];exact un.tups b xs e
  .rw[Zb (lt b _ e)];exact un.frzs b ob u e
  .obtain⟨more,q⟩:=un.tbls b ps e;exact⟨more,by rwa[Zb (lt b _ e)]⟩
 have hok:HOk X.prog X.w (upd H' D<|.lst ys) s'.heap:=λb u e=>by
  by_cases hb:b=D
  .subst hb;rw[XS]at e;cases e;exact⟨hz,us,us.length,r,aD⟩
  .rw[Zb hb]at e;exact(I'.hok b u e).stay (λc v _ q=>q) (λc q=>by rwa[Zb (Za q nD)]) λc xs q=>by rwa[Zb (Za q nD)]
 have os:s'.os=s.os:=I'.os;have AP:Inv X pins σ (upd H' D<|.lst ys) s':=I.call' (ch:=fp) os rQ hok I'.bare λb hb=>by obtain⟨f0,f1,f2,f3,f4,f5⟩:=hf b hb;exact⟨f3,f1,f4,f5⟩
 obtain⟨m,hn,_⟩:=I'.loc;have hn:s'.heap.Ns C m:=hn
 obtain⟨oC,es,ep,rP,hdC,_⟩:=id hn;refine⟨oC,m,rP,hn,AP.pins_of λp hp=>?_⟩;rcases XE.mp hp with z|z
 .exact AP.pin p (Yi _ z)
 .have e:p=(C,oC):=by simpa using z
  subst e;have nC:H' C=none:=I'.free
  refine⟨rP,by rw[Zb (XI NF)];exact nC,Rn<|Yw I.lt hC,I.nofs hC,λv z=>?_⟩;have z':oC.data=.cell v:=z
  rw[hdC]at z';cases z'
end
section
variable{X:Cx}{N':List Str}{o:Nat}{fr:List Nat}{scope:Scope}{elt tg iter:Expr}{ifs:List Expr}{pos:Pos}{wi:TI}{g:TG}{tt:TT}{te:TE}
theorem Ld(hc:X.calm=true)(uz:CompScope sc0 N0 N' o fr scope)(hi:PI X tg iter wi)(ho:Pn o g)
  (hg:∀C s H fp,PG (Up X N' scope C s H fp) tg g)
  (ht:∀C s H fp,DD (Up X N' scope C s H fp) ifs tt)
  (he:∀C s H fp,PE (Up X N' scope C s H fp) elt te)
  (hs:∀x,foldedSetIterable iter X.env x=pure x)(Ql:X.env.scope=sc0)(DB:X.N=N0)(I:Inv X pins σ H s)(h:rR wi g tt te o fr σ H Qv)
  {use:Option (Value->Sem Unit)}{Q:Ae}{E:Ae}
  (hE:∀e s',X.xe e s'->E e s')
  (fin:∀C oC D m H' ys s',Inv X (pins++[(C,oC)]) σ (upd H' D<|.lst ys) s'->Qv (.ref D) (upd H' D<|.lst ys)->s'.heap.Ns C m->H' C=none->C≠D->
   C≠X.env.locals->X.s₀.heap.objs.size<=C->(∀x c,X.env.cells.lookup x=some c->c≠C)->(∀p∈X.pn++pins,p.1≠C)->compPost (model X.prog X.w) X.A E use Q (.ref D) C (.ok .next) s'):
  wpAny (model X.prog X.w) X.A (comprehension (.ListComp elt [⟨tg,iter,ifs,0⟩] scope pos) scope X.env (firstIterPos [⟨tg,iter,ifs,0⟩] pos) (newList []) false (eval iter X.env) use) Q E s:=by
 refine wpAny_comprehension_free (use:=use) Z hs (ZZ7<|uz.cells Ql I) uz.kind uz.loc' (SK (hi pins s σ H _ I h) (λxv s1 h1=>SK h1 (λtS s2 h2=>?_) hE) hE);obtain⟨it,fp,tn,AP,H2,rfl,I2,T,MR,f2,W,⟨m0,w0⟩,turn⟩:=h2;have NG:∀b∈fp,b<s2.heap.objs.size:=λb hb=>by obtain⟨ob,e,_⟩:=T.obj 0 _ MR b hb;exact Yq e
 refine Qr (wpAny_newFunctionEnv uz.nocell' (by intro y hy;simp at hy) (λh1 Jc MH=>?_) uz.kind);dsimp only at Jc MH ⊢;generalize rO:s2.heap.push {cls:=.type "list",dict:=none,data:=.seq ([]:Ag).toArray}=G at Jc MH ⊢;have fb:G.objs.size=s2.heap.objs.size+1:=by rw[<-rO,UH]
 have hC:s2.heap.objs.size<=G.objs.size:=by rw[fb];exact TH _
 have NF:s2.heap.objs.size≠G.objs.size:=by rw[fb];exact YB (NO _)
 have old:∀b ob,s2.heap.get? b=some ob->h1.get? b=some ob:=λb ob e=>
  MH.extBut b ob (YB<|Yw (Yq e) hC) (Xc _<|rO▸Xc _ e)
 have VS:h1.get? s2.heap.objs.size=some (Uo []):=MH.extBut _ _ NF (Xc _<|rO▸Yk _ Z);have Jb:tn 0 h1:=T.keep _ _ _ MR λb _ ob e=>old b ob e
 have rN:∀{us:Ag}{H':Hp},(∀b∈fp,H' b=none)->∀b∈fp,FpOk (Up X N' scope G.objs.size s2 H2 fp) [(s2.heap.objs.size,Uo us)] H' b:=λ{us H'} hn b hb=>by
  obtain⟨f0,f1,f3,f4,f5,f6⟩:=f2 b hb;refine⟨hn b hb,YB<|Yw (NG b hb) hC,λz=>?_,.inl hb,λx c e=>f5 x c<|uz.sub Ql I2 x c e,λp hp=>?_⟩
  .rcases Yg.mp (I2.stkSub b z) with q|q
   .exact f1 q
   .exact f3 q
  .have e:p=(s2.heap.objs.size,Uo us):=by simpa using (show p∈([]:List (Addr×Obj))++[(s2.heap.objs.size,Uo us)] from hp)
   subst e;exact Rn (NG b hb)
 have loop:∀s3:Shared,s3={s2 with heap:=h1,toks:=s2.toks+([]:List (Str×Value)).length}->
   codeAny (model X.prog X.w) X.A (.compLoop (.ListComp elt [⟨tg,iter,ifs,0⟩] scope pos) 0 (.ref it) (.ref s2.heap.objs.size)<|compEnvC scope (RL X.env.cells scope.names []) G.objs.size X.env)
    (compPost (model X.prog X.w) X.A E use Q (.ref s2.heap.objs.size) G.objs.size) s3:=by
  rintro s3 rfl;refine ZP4 (λn s'=>∃i σ' H' ys us,Inv (Up X N' scope G.objs.size s2 H2 fp) [(s2.heap.objs.size,Uo us)] σ' H' s'/\σ'=σC o fr σ/\Vals ys us/\tn i s'.heap/\(∀b∈fp,H' b=none)/\W i n ys H') ?_ m0
   ⟨0,_,H2,[],[],I2.block uz Ql DB f2 NG hC (XJ _) NF old Jc VS,Z,.nil,Jb,λb hb=>(f2 b hb).1,w0⟩
  rintro n s' ⟨i,σ',H',ys,us,I',rfl,rv,VD,e9,w'⟩;rcases turn i n ys H' w' with ⟨stop,hz,q⟩|⟨go,hz,step⟩
  .refine thn (T.done (Up X N' scope G.objs.size s2 H2 fp) Z Z Z hc i _ s' _ H' _ I' (rN e9) VD stop) λr s4 zz=>?_;obtain⟨hr,I4⟩:=zz;subst hr;obtain⟨oC,m,rP,hn,J4⟩:=I2.unblock f2 hC (XJ _) NF I4 rv hz;exact fin _ oC _ m H' ys s4 J4 (q _ (I4.pin (s2.heap.objs.size,Uo us) S).2.1) hn I4.free (XI NF) (Rn<|Yw I2.lt hC) (Yv I2.sz hC)
    (λx c e=>by obtain⟨v,z⟩:=I2.cell x c e;exact YB<|Yw z.lt hC) λp hp=>YB (Yw (Yq (I2.pin p hp).1) hC)
  .refine thn (T.item (Up X N' scope G.objs.size s2 H2 fp) Z Z Z hc i _ s' _ H' _ I' (rN e9) VD go) λr s4 Xv=>?_;obtain⟨u,hr,h4⟩:=Xv;subst hr;refine thn h4 λ_ s5 Xv=>?_;obtain⟨x,H5,I5,r5,y5,Jr,tL⟩:=Xv;have Vb:=step x H5 y5
   have rM:=ho x (List.replicate o none) (fr.map λj=>(σ[j]?).join) H5 _ (YN ..) Vb;have tK:=I5.pinned (rN (us:=us) tL) (T.obj _ _ Jr)
   refine thn (hg _ _ _ _ _ s5 _ H5 x u _ tK r5 rM) λ_ s6 Xv=>?_;obtain⟨σ6,H6,I6,⟨ow,Qk,e6⟩,q6⟩:=Xv;subst e6;refine thn (ht _ _ _ _ _ s6 _ H6 _ I6 q6) λb s7 Xv=>?_;obtain⟨H7,I7,q7⟩:=Xv;have back:∀{us':Ag}{σ8:St}{H8:Hp}{s8:Shared},Inv (Up X N' scope G.objs.size s2 H2 fp) ([(s2.heap.objs.size,Uo us')]++MT fp s5.heap) (ow++fr.map λj=>(σ[j]?).join) H8 s8->
     Inv (Up X N' scope G.objs.size s2 H2 fp) [(s2.heap.objs.size,Uo us')] (σC o fr σ) H8 s8/\tn (i+1) s8.heap/\∀b∈fp,H8 b=none:=λ{us' σ8 H8 s8} I8=>by
    refine⟨I8.unpinned.weak ?_ λj v e=>?_,T.keep _ _ _ Jr λb hb ob e=>(I8.pin (b,ob)<|Yi _<|Yi _<|MS hb e).1,λb hb=>?_⟩
    .unfold σC;rw[Xu,Xu,YN,Qk]
    .unfold σC at e;by_cases hj:j<o
     .rw[Ys (by rwa[YN]),y8,if_pos hj]at e;cases e
     .rw[Yo (by rw[YN];exact Nat.not_lt.mp hj),YN]at e;rwa[Yo (by rw[Qk];exact Nat.not_lt.mp hj),Qk]
    .obtain⟨ob,e,_⟩:=T.obj _ _ Jr b hb;exact(I8.pin (b,ob)<|Yi _<|Yi _<|MS hb e).2.1
   cases b with
   |false=>
    rw[if_neg Yy]at q7 ⊢;obtain⟨m',hm,w7⟩:=q7;obtain⟨I8,st8,fr8⟩:=back (us':=us) (σ8:=[]) I7;exact⟨m',hm,i+1,_,H7,ys,us,I8,Z,rv,st8,fr8,w7⟩
   |true=>
    rw[if_pos Z]at q7 ⊢;refine thn (he _ _ _ _ _ s7 _ H7 _ I7 q7) λy s8 Xv=>?_;obtain⟨yv,H8,I8,r8,m',hm,w8⟩:=Xv;obtain⟨aD,nD,_,_,_⟩:=I8.pin (s2.heap.objs.size,Uo us) S;have aD:s8.heap.get? s2.heap.objs.size=some (Uo us):=aD
    have nD:H8 s2.heap.objs.size=none:=nD;have hul:us.length<=sizeLine:=by rw[<-rv.length];exact Nb hz
    refine append_at (hsz:=by show us.toArray.size<=sizeLine;rwa[Yc]) aD λh9 hs9 hD9=>?_;have rL:h9.get? s2.heap.objs.size=some (Uo<|us++[y]):=by
     rw[hD9];show some ({cls:=.type "list",data:=.seq (us.toArray.push y) (us.length+1)}:Obj)=some {cls:=.type "list",data:=.seq (us++[y]).toArray (us++[y]).length}
     rw[Xu,Yu,List.push_toArray]
    have I9:Inv (Up X N' scope G.objs.size s2 H2 fp) (MT fp s5.heap) (ow++fr.map λj=>(σ[j]?).join) H8 {s8 with heap:=h9}:=
     (I8.pins_of (pins':=MT fp s5.heap) λp hp=>I8.pin p<|Yi _<|Yi _ hp).turned (t':=s8.toks) (it:=s2.heap.objs.size) (λb ob hb e=>hs9.extBut b ob hb e) nD NF (.inr<|XJ _)
      (λx c e=>by obtain⟨v,z⟩:=I2.cell x c (uz.sub Ql I2 x c e);exact YB z.lt)
      λp hp=>by obtain⟨hb,_⟩:=fJ (show p∈MT fp s5.heap from by simpa[Up] using hp);exact YB (NG p.1 hb)
    have I9':Inv (Up X N' scope G.objs.size s2 H2 fp) ([(s2.heap.objs.size,Uo<|us++[y])]++MT fp s5.heap) (ow++fr.map λj=>(σ[j]?).join) H8 {s8 with heap:=h9}:=
     I9.pins_of λp hp=>by
      rcases XE.mp hp with z|z
      .have e:p=(s2.heap.objs.size,Uo<|us++[y]):=by simpa using z
       subst e;refine⟨rL,nD,NF,λz=>?_,λv z=>nomatch z⟩;obtain⟨_,ob,Pk,_⟩:=I2.stack.mem z;exact Sw _ (Yq Pk)
      .exact I9.pin p (Yi _ z)
    obtain⟨I10,rK,rJ⟩:=back (us':=us++[y]) (σ8:=[]) I9';exact⟨m',hm,i+1,_,H8,ys++[yv],us++[y],I10,Z,Vals.append rv<|.cons r8 .nil,rK,rJ,w8⟩
 exact codeAny_compStart_list (loop _ Z) (T.self _ 0 _ _ _ Jb<|loop _ Z)
theorem WG(hc:X.calm=true)(uz:CompScope sc0 N0 N' o fr scope)(hi:PI X tg iter wi)(ho:Pn o g)
  (hg:∀C s H fp,PG (Up X N' scope C s H fp) tg g)
  (ht:∀C s H fp,DD (Up X N' scope C s H fp) ifs tt)
  (he:∀C s H fp,PE (Up X N' scope C s H fp) elt te)
  (hs:∀x,foldedSetIterable iter X.env x=pure x:=by intro _;rfl)(Ql:X.env.scope=sc0:=by rfl)(DB:X.N=N0:=by rfl):PE X (.ListComp elt [⟨tg,iter,ifs,0⟩] scope pos) (rR wi g tt te o fr):=by intro pins s σ H Q I h;rw[eval_ListComp];refine Ld hc uz hi ho hg ht he hs Ql DB I h (use:=none) (λ_ _ z=>z) λC oC D m H' ys s' AP q hn nC rH rG rF rE rz=>?_;refine⟨m,hn,λh' ND=>⟨.ref D,upd H' D<|.lst ys,?_,Z,q⟩⟩;refine AP.unpinned.turned (t':=s'.toks) (it:=C) (λb ob hb e=>ND.extBut b ob hb e) (by rwa[Zb rH]) rG (.inr rF) rE rz
theorem Uz{x:Str}{px:Pos}{DA:Pos}(hc:X.calm=true)(hN:X.N.Nodup)(hx:X.N[i]?=some x)(hl:X.env.kindOf x=some .local)(uz:CompScope sc0 N0 N' o fr scope)(hi:PI X tg iter wi)(ho:Pn o g)
  (hg:∀C s H fp,PG (Up X N' scope C s H fp) tg g)
  (ht:∀C s H fp,DD (Up X N' scope C s H fp) ifs tt)
  (he:∀C s H fp,PE (Up X N' scope C s H fp) elt te)
  (hs:∀x,foldedSetIterable iter X.env x=pure x:=by intro _;rfl)(Ql:X.env.scope=sc0:=by rfl)(DB:X.N=N0:=by rfl)
  (hsw:swapsWith (.ListComp elt [⟨tg,iter,ifs,0⟩] scope pos) (some<|.Name x px) DA.line X.env=pure true:=by rfl):
  PS X (.Assign [.Name x px] (.ListComp elt [⟨tg,iter,ifs,0⟩] scope pos) DA) (MU (rR wi g tt te o fr)<|Ls i):=by
 intro pins s σ H D I h;rw[exec_Assign_Name_used _ _ _ _ hsw];refine XU (wpAny_standAt<|XU ?_);show wpAny _ X.A (do let _ <-comprehension (.ListComp elt [⟨tg,iter,ifs,0⟩] scope pos) scope X.env (firstIterPos [⟨tg,iter,ifs,0⟩] pos) (newList []) false (eval iter X.env) (some<|assign (.Name x px) X.env)) _ _ s
 refine XU (SK (Ld (Q:=λ_ s'=>SP X pins D .next s') hc uz hi ho hg ht he hs Ql DB I h (use:=some<|assign (.Name x px) X.env) (λ_ _ z=>z) λC oC Dd m H' ys s' AP q hn nC rH rG rF rE rz=>?_) (λ_ s' hq=>Ym<|Ym hq) λ_ _ e=>e);show wpAny _ X.A (assign (.Name x px) X.env<|.ref Dd) _ _ _
 refine wpAny_assign_Name (yx AP hN hx (.inl hl) (v:=.ref Dd) Z (λs2 I2=>?_)<|.inr hl);have g1:=(I2.pin (C,oC) S).1
 have g1:s2.heap.get? C=some oC:=g1;have n2:s2.heap.Ns C m:=by
  obtain⟨oc,es,ep,e,r⟩:=hn;have e0:=(AP.pin (C,oC) S).1
  have e0:s'.heap.get? C=some oC:=e0;rw[e]at e0;cases e0;exact⟨_,es,ep,g1,r⟩
 refine⟨m,n2,λh' ND=>⟨_,upd H' Dd<|.lst ys,?_,q⟩⟩;exact I2.unpinned.turned (t':=s2.toks) (it:=C) (λb ob hb e=>ND.extBut b ob hb e) (by rwa[Zb rH]) rG (.inr rF) rE rz
end
section
variable{X:Cx}
theorem rq{x y:V}{us:Ag}(r:Vals [x,y] us):∃u v,us=[u,v]/\RelV x u/\RelV y v:=by
 cases r with
 |cons a r=>
  cases r with
  |cons b r=>cases r;exact⟨_,_,Z,a,b⟩
theorem ZA:∀{ns:Ac}{us:Ag},Vals (ns.map V.int) us->IntsAre us ns
 |[],_,.nil=>.nil
 |n::ns,_,.cons r t=>by obtain⟨tk,rfl⟩:=r;exact .cons n tk (ZA t)
theorem Dz:Vx X (.type "range") (λxs H Q=>∃j:Int,xs=[.int j]/\∀p,H p=none->Q (.ref p) (upd H p (.rng 0 j))):=by intro pins s σ H xs us Q I r h;obtain⟨j,rfl,q⟩:=h;obtain⟨u,rfl,t,rfl⟩:=WL r;refine call_range_1 ?_;exact⟨.ref s.heap.objs.size,_,I.laid (o:=.rng 0 j) (λb u e=>Xc _ e) (XJ _) ⟨_,_,_,Yk _ Z⟩,Z,q _<|I.hok.fresh<|XJ _⟩
def WT(lo hi:Int):Ac:=(List.range (hi-lo).toNat).map λ(i:Nat)=>lo+(i:Int)
theorem rp(lo hi:Int):(WT lo hi).length=(hi-lo).toNat:=by unfold WT;rw[Yb,PL]
theorem eZ{lo:Int}:∀{us:Ag},us.length=n->(∀(j:Nat)(v:Value),us[j]?=some v->∃t,v=Value.int (lo+(j:Int)) t)->Vals (((List.range n).map λ(i:Nat)=>lo+(i:Int)).map V.int) us:=by
 induction n generalizing lo with
 |zero=>
  intro us h _;rw[YY.mp h];exact .nil
 |succ n ih=>
  intro us h hv;cases us with
  |nil=>cases h
  |cons u us=>
   rw[List.range_succ_eq_map,UI,UI];refine .cons ?_ ?_
   .obtain⟨t,e⟩:=hv 0 u rfl;exact⟨t,e⟩
   .have q:=ih (lo:=lo+1) (us:=us) (Nc h) λj v e=>by obtain⟨t,e'⟩:=hv (j+1) v (by simpa using e);refine⟨t,?_⟩;rw[e'];congr 1;lia
    have e:(List.range n).map (λ(i:Nat)=>lo+1+(i:Int))=((List.range n).map Nat.succ).map (λ(i:Nat)=>lo+(i:Int)):=by
     rw[LB];refine VW λi _=>?_;show lo+1+(i:Int)=lo+((i+1:Nat):Int)
     lia
    rwa[e]at q
theorem x6(hc:X.calm=true):Vx X (.type "list") (λxs H Q=>∃p lo hi,xs=[.ref p]/\H p=some (.rng lo hi)/\(-(2^62)<=lo/\lo<2^62/\-(2^62)<=hi/\hi<2^62)/\(hi-lo).toNat<=16777216/\
  ∀l,H l=none->Q (.ref l) (upd H l<|.lst<|(WT lo hi).map V.int)):=by
 intro pins s σ H xs us Q I r h;obtain⟨p,lo,hi,rfl,hp,⟨b1,b2,b3,b4⟩,hz,q⟩:=h;obtain⟨u,rfl,ru⟩:=WL r;obtain rfl:u=Value.ref p:=ru;obtain⟨t,u,v,e⟩:=(show ObjOk X.prog X.w H s.heap p (.rng lo hi) from I.hok p _ hp);have hn:Builtin.Range.rangeSize lo hi 1=(((hi-lo).toNat:Nat):Int):=by rw[rangeSize_one];split<;>grind
 refine call_list_range (I.ok.hd hc) (t:=t) (u:=u) (v:=v) e (small_one b1 b2 b3 b4) hn hz λh' tk acc c' hk hS ha=>?_;have hl:acc.toList.length=(hi-lo).toNat:=by rw[YE];exact ha.1
 have rv:Vals ((WT lo hi).map V.int) acc.toList:=eZ (lo:=lo) hl λj w ew=>by obtain⟨t,e⟩:=ha.2 j w (by simpa using ew);exact⟨t,by rw[e,Na]⟩
 refine⟨.ref s.heap.objs.size,_,I.laid (o:=.lst<|(WT lo hi).map V.int) hk (XJ _) ⟨?_,acc.toList,c',rv,?_⟩,Z,q _<|I.hok.fresh<|XJ _⟩
 .rw[Yb,rp]
  have:sizeLine=16777216:=TF
  lia
 .rw[hS]
theorem Zk4(hc:X.calm=true):Vx X (.builtin "sum") (λxs H Q=>∃(p:Addr)(ns:Ac),xs=[.ref p]/\SqL X.K H p (ns.map V.int)/\Q (.int ns.sum) H):=by
 intro pins s σ H xs us Q I r h;obtain⟨p,ns,rfl,hq,q⟩:=h;obtain⟨u,rfl,ru⟩:=WL r;obtain rfl:u=Value.ref p:=ru;obtain⟨XT,rv,pl,hz⟩:=I.list hq;have hi:=ZA rv
 have Wg:=hi.allInts;obtain⟨xs,ex⟩:=Wg.items;have hl:=pl.isList
 rw[ex]at hl;refine sum_intListG (I.ok.hd hc) hl λh' tk t' hk=>?_;have e1:preSum (numAt xs) xs.size=ns.sum:=by have e2:=hi.numsOf;rw[show XT=XT.toArray.toList from Z,ex,nums_intItems]at e2;rw[preSum_eq,YO S,<-e2]
 exact⟨.int ns.sum,H,I.kept hk,⟨t',by rw[e1]⟩,q⟩
def seen(ns:Ac):Ac:=firstMet (λi=>ns.getD i 0) ns.length
theorem Zl4(hc:X.calm=true):Vx X (.type "set") (λxs H Q=>∃p ns,xs=[.ref p]/\SqL X.K H p (ns.map V.int)/\ns.length+1<scanBound/\
  ∀l,H l=none->Q (.ref l) (upd H l (.set (λk=>(seen ns).any (· == k)) (seen ns).length))):=by
 intro pins s σ H xs us Q I r h;obtain⟨p,ns,rfl,hq,hb,q⟩:=h;obtain⟨u,rfl,ru⟩:=WL r;obtain rfl:u=Value.ref p:=ru;obtain⟨XT,rv,pl,hz⟩:=I.list hq;have hi:=ZA rv
 have hl:XT.toArray.size=ns.length:=by rw[Yc,<-rv.length,Yb]
 refine call_set_list (I.ok.hd hc) pl.isList (ns:=ns) (by simpa using hi) J λh' tk hs hk=>?_;refine⟨.ref s.heap.objs.size,_,I.laid (o:=.set (λk=>(seen ns).any (· == k)) (seen ns).length) (λb ob e=>hk b ob (Yq e) e) (XJ _) ?_,Z,q _<|I.hok.fresh<|XJ _⟩;unfold seen;rwa[<-hl]
theorem Zm4:Vx X (.builtin "len") (λxs H Q=>∃p uz n,xs=[.ref p]/\H p=some (.set uz n)/\(n:Int)<2^63/\Q (.int n) H):=by intro pins s σ H xs us Q I r h;obtain⟨p,uz,n,rfl,hp,hn,q⟩:=h;obtain⟨u,rfl,ru⟩:=WL r;obtain rfl:u=Value.ref p:=ru;obtain⟨o,es,ep,t,e,hx,hd,_,_,_,hf,hz⟩:=(show ObjOk X.prog X.w H s.heap p (.set uz n) from I.hok p _ hp);subst hz;exact call_len_set e hx hd hf hn ⟨.int es.size,H,I.tok _,⟨_,Z⟩,q⟩
def Gn(K:Ad)(a:Addr):It:=
 ⟨λi H=>∃xs x,SqL K H a xs/\xs[i]?=some x,λi H v H'=>∃T x,H T=none/\v=.ref T/\H'=upd H T (.tup [.int i,x])/\∀xs,SqL K H a xs->xs[i]?=some x,λi H=>∃xs,SqL K H a xs/\xs.length<=i⟩
def Lc(K:Ad)(ta:TA):TI:=λσ H R=>ta σ H λvs H1=>∃a,vs=[.ref a]/\(∃xs,SqL K H1 a xs)/\R (Gn K a) H1
theorem Zf8{P:Program}{w:World}{K:Ad}{elts:List Expr}{x1:Nat}{pos:Pos}(a e it:Addr)(XH:e≠it):Turn P w K (.Tuple elts x1 pos) (Gn K a) [e,it] e (λi h=>(∃old,IsEnum h e it i old)/\h.IsListIter it a i) where
 mem:=S
 obj:=λi h st b hb=>by
  obtain⟨⟨old,he⟩,o,eo,c,d⟩:=st;rcases Yg.mp hb with z|hb
  .subst z;exact⟨_,he,λv z=>by have z':Data.fields _=Data.cell v:=z;cases z'⟩
  .have z:b=it:=by simpa using hb
   subst z;exact⟨o,eo,λv z=>by rw[d]at z;cases z⟩
 keep:=λi h h' st k=>by obtain⟨⟨old,he⟩,hit⟩:=st;exact⟨⟨old,k e S _ he⟩,hit.at λo x=>k it S o x⟩
 item:=by
  intro X hP hw hK hc i pins s σ H E I hf st hg;subst hP hw hK;obtain⟨xs,x,hq,hx⟩:=hg;obtain⟨⟨old,he⟩,hit⟩:=st;obtain⟨XT,rv,p,hz⟩:=I.list hq;obtain⟨u,hu,ru⟩:=rv.get hx;obtain⟨f0,f1,f2,f3,f4,f5⟩:=hf e S;obtain⟨g0,g1,g2,g3,g4,g5⟩:=hf it S;have rn:H s.heap.objs.size=none:=I.hok.fresh (XJ _)
  refine wpAny_pyNext_enum_item he hit p.isList (x:=u) (by simpa using hu) XH λh' ho rm hT hsz hk=>?_;have NC:∀b ob,s.heap.get? b=some ob->b≠s.heap.objs.size:=λb ob z=>YB (Yq z)
  have Pj:∀b ob,H b=some ob->b≠s.heap.objs.size:=λb ob z=>YB (I.hok.lt z);have NB:∀b ob,H b=some ob->b≠e/\b≠it:=λb ob z=>⟨λq=>(by rw[q,f0]at z;cases z),λq=>(by rw[q,g0]at z;cases z)⟩
  have I1:Inv X pins σ (upd H s.heap.objs.size<|.tup [.int i,x]) {s with heap:=h',toks:=s.toks+1}:=by
   refine I.step (g':=s.gens) (d':=s.drawn) (ch:=[e,it]) (λb hb=>?_) (λb o _ _ Wf z _=>hk b o (λq=>Wf<|by simp[q]) (λq=>Wf<|by simp[q]) z) (λb o _ _ Wf z _=>⟨o.slots,hk b o (λq=>Wf<|by simp[q]) (λq=>Wf<|by simp[q]) z⟩)
    (λb o _ z n=>by rwa[Zb (NC b o z)]) (λb o Wf z=>⟨o,hk b o (λq=>Wf<|by simp[q]) (λq=>Wf<|by simp[q]) z⟩) (λb ys z=>by rwa[Zb (Pj b _ z)]) (λb o v z=>by rwa[Zb (Pj b _ z)])
    (λb ps z=>⟨#[],by rw[Zb (Pj b _ z),z];simp⟩) (λm hm=>?_) (λb v z=>?_) I.bare
   .rcases Yg.mp hb with q|hb
    .rw[q];exact⟨f3,f1,f4,f5⟩
    .have q:b=it:=by simpa using hb
     rw[q];exact⟨g3,g1,g4,g5⟩
   .obtain⟨o,es,ep,Vj,r⟩:=hm;exact⟨o,es,ep,hk _ o (XI f1) (XI g1) Vj,r⟩
   .by_cases hb:b=s.heap.objs.size
    .subst hb;rw[XS]at z;cases z;exact⟨by show 2<=sizeLine;decide,[.int i s.toks,u],.cons ⟨_,Z⟩<|.cons ru .nil,⟨_,hT,Z,_,Z⟩⟩
    .rw[Zb hb]at z;refine(I.hok b v z).stay (λc w' WI q=>?_) (λc q=>by rwa[Zb (Pj c _ q)]) λc ys q=>by rwa[Zb (Pj c _ q)]
     rcases WI with rfl|WI
     .exact hk c w' (NB c _ z).1 (NB c _ z).2 q
     .exact hk c w' (NB c _ WI).1 (NB c _ WI).2 q
  refine⟨_,Z,wpAny_letOwnedTupleGo_enum ho λh2 Ph To=>?_⟩;have fT:e≠s.heap.objs.size:=NC e _ he
  have I2:Inv X pins σ (upd H s.heap.objs.size<|.tup [.int i,x]) {s with heap:=h2,toks:=s.toks+1}:=Inv.turned (s:={s with heap:=h',toks:=s.toks+1}) (h':=h2) (t':=s.toks+1) (it:=e) I1 (λb o hb z=>To.extBut b o hb z) (by rwa[Zb fT]) f1 f3 f4 f5;refine⟨.ref s.heap.objs.size,_,I2,Z,⟨_,x,rn,Z,Z,λys hy=>by rwa[I.list_inj hy hq]⟩,⟨⟨u,by simpa using Ph⟩,rm.at λo z=>To.extBut it o (XI XH) z⟩,λb hb=>?_⟩;rcases Yg.mp hb with q|hb
  .rw[q,Zb fT];exact f0
  .have q:b=it:=by simpa using hb
   obtain⟨o,eo,_⟩:=hit;rwa[q,Zb (NC it o eo)]
 done:=by
  intro X hP hw hK hc i pins s σ H E I hf st hg;subst hP hw hK;obtain⟨xs,hq,hx⟩:=hg;obtain⟨⟨old,he⟩,hit⟩:=st;obtain⟨XT,rv,p,hz⟩:=I.list hq;obtain⟨g0,g1,g2,g3,g4,g5⟩:=hf it S;have hl:=rv.length
  exact wpAny_pyNext_enum_end (I.ok.hd hc) he hit p.isList (by simp;lia) λh' eb=>⟨Z,I.turned (t':=s.toks) (it:=it) (λb o hb z=>eb b o hb z) g0 g1 g3 g4 g5⟩
 self:=λ_ _ _ _ _ st h=>by obtain⟨⟨_,he⟩,_⟩:=st;exact wpAny_pyIter_enum he h
theorem rj{elts:List Expr}{x1:Nat}{So:Pos}{a:Expr}{ta:TA}{p pos:Pos}(hg:Gl X "enumerate")(hm:X.mg "enumerate"=none)(ha:PA X [a] ta)(hs:starEach [a] X.env=[(false,eval a X.env)]:=by rfl):
  PI X (.Tuple elts x1 So) (.Call (.Name "enumerate" p) [a] [] pos) (Lc X.K ta):=by
 intro pins s σ H R I h;refine Call_ (Ra I hg hm Boot.«enumerate»<|Ug (thn (ha pos pins s σ H _ I h) λus s1 Xv=>?_) hs Z);obtain⟨vs,H1,I1,r1,q1⟩:=Xv;obtain⟨b,e,⟨xs,hq⟩,q⟩:=q1;subst e;obtain⟨u,rfl,ru⟩:=WL r1;obtain rfl:u=Value.ref b:=ru;obtain⟨XT,rv,pl,hz⟩:=I1.list hq;refine call_enumerate_list pl.isList λh' he hit hsz hk=>?_;have I2:Inv X pins σ H1 {s1 with heap:=h'}:=I1.kept (t':=s1.toks) hk
 refine wpAny_pyIter_enum he ?_;have nn:∀k,s1.heap.objs.size<=k->H1 k=none:=λk hk=>I1.hok.fresh hk
 refine⟨s1.heap.objs.size+1,[s1.heap.objs.size+1,s1.heap.objs.size],_,_,H1,Z,I2,Zf8 b _ _<|Nat.succ_ne_self _,⟨⟨_,he⟩,hit⟩,λc hc=>?_,q⟩;have hle:s1.heap.objs.size<=c:=by
  rcases Yg.mp hc with q|hc
  .rw[q];exact TH _
  .have q:c=s1.heap.objs.size:=by simpa using hc
   rw[q];exact XJ _
 exact I1.fpOk hle (nn c hle)
theorem Dy{us:Ag}(r:Vals [kV k,y] us):∃u v,us=[u,v]/\RelV (kV k) u/\RelV y v:=rq r
inductive rSetDef(x:V)(vs:List V)(H:Hp)(Q:VK):Prop
 |mk (d kvs k y:_) (_:x=.ref d) (_:vs=[kV k,y]) (_:H d=some (.dK kvs)) (_:kvs.length<sizeLine) (_:(∀v,Wq kvs k=some v->Q v H)) (_:(Wq kvs k=none->Q y (upd H d<|.dK<|kvs++[(k,y)])))
theorem rh:NI X "dict.setdefault" rSetDef:=by
 intro pins s σ H x vs v us Q I rx rv h;obtain⟨d,kvs,k,y,rfl,rfl,hH,hz,h1,h2⟩:=h;cases rx;obtain⟨uk,uy,rfl,rk,ry⟩:=Dy rv;obtain⟨z,hd,ws,rel,dd⟩:=Jg I.hok hH;refine call_meetsIn EK dd.typeIs PySem.F.entry_dict_setdefault (PySem.F.args_dict_setdefault_3 _ _ _) (kt_meets_setdefault (Rf X.prog X.w) d (sj rk) hd uy)
  ⟨ws,dd,by rw[<-rel.length];exact z,λv' yh=>?_,λhn h' eY hs=>?_⟩
 .cases e:Wq kvs k with
  |none=>
   have q:=rel.val k;rw[e,yh]at q;exact False.elim q
  |some w'=>
   have q:=rel.val k;rw[e,yh]at q;exact⟨w',H,I.tok _,q,h1 w' e⟩
 .have e:Wq kvs k=none:=by
   cases e:Wq kvs k with
   |none=>rfl
   |some w'=>
    have q:=rel.val k;rw[e,hn]at q;exact False.elim q
  have he:∃q,h'.get? d=some q:=by obtain⟨q,_,_,hq,_⟩:=eY;exact⟨q,hq⟩
  refine⟨y,_,sd (ob:=.dK<|putK kvs k y) I (by rw[hH];exact True.intro) hs he<|r9 ?_ hd (rel.put k ry) eY,ry,?_⟩
  .have:=sq kvs k y;lia
  .rw[so y e];exact h2 e
def QT(p d:Addr):HO:=.ext λh=>h.IsValuesView p d
inductive rValues(x:V)(vs:List V)(H:Hp)(Q:VK):Prop
 |mk (d kvs:_) (_:x=.ref d) (_:vs=[]) (_:H d=some (.dK kvs)) (_:∀p,H p=none->Q (.ref p) (upd H p<|QT p d))
theorem ZC8:NI X "dict.values" rValues:=by
 intro pins s σ H x vs v us Q I rx rv h;obtain⟨d,kvs,rfl,rfl,hH,q⟩:=h;cases rx;cases rv;obtain⟨z,hd,ws,rel,dd⟩:=Jg I.hok hH;refine call_meetsIn gx dd.typeIs PySem.F.entry_dict_values (PySem.F.args_dict_values_1 _) (meets_dict_values (Rf X.prog X.w) d hd) ⟨⟨ws,dd⟩,?_⟩;refine⟨.ref s.heap.objs.size,_,I.laid (o:=QT s.heap.objs.size d) (λb u e=>Xc _ e) (XJ _) ?_,Z,q _<|I.hok.fresh<|XJ _⟩;have e:=Yk s.heap (o:={cls:=.type "dict_values",data:=.fields #[.ref d]}) rfl
 exact⟨⟨_,e,Z,Z⟩,⟨_,e⟩,λh1 h2 zz k=>by obtain⟨o,ho,r⟩:=zz;exact⟨o,k o ho,r⟩⟩
theorem rg{h:Heap}(dd:h.DictOf (Rf P w) d ws):∃ep,h.DictAt (Rf P w) d ws ep:=by obtain⟨o,es,ep,r⟩:=dd;exact⟨ep,o,es,r⟩
theorem rf{κ:Type}{kvs:List (κ×V)}{ws:List (κ×Value)}(h:KV kvs ws):Vals (kvs.map (·.2)) (ws.map (·.2)):=by
 induction h with
 |nil=>exact .nil
 |cons r t ih=>exact .cons r.2 ih
theorem ZJ3(hc:X.calm=true):Vx X (.type "list") (λxs H Q=>∃p d kvs,xs=[.ref p]/\H p=some (QT p d)/\H d=some (.dK kvs)/\∀l,H l=none->Q (.ref l) (upd H l (.lst (kvs.map (·.2))))):=by
 intro pins s σ H xs us Q I r h;obtain⟨p,d,kvs,rfl,hp,hd,q⟩:=h;obtain⟨u,rfl,ru⟩:=WL r;obtain rfl:u=Value.ref p:=ru;obtain⟨hv,_,_⟩:=(show ObjOk X.prog X.w H s.heap p (QT p d) from I.hok p _ hp);obtain⟨z,NA,ws,rel,dd⟩:=Jg I.hok hd;obtain⟨ep,da⟩:=rg dd;have hl:ws.length=kvs.length:=rel.length.symm
 refine PySem.W.kdl_call (PySem.W.kdl_values (knd:=Rf X.prog X.w) (kvs:=ws) (ep:=ep) (r:=p) (d:=d)) (I.ok.hd hc) ⟨hv,da⟩ J λh' tk acc c' hk hS ha=>?_;have ea:acc.toList=ws.map (·.2):=by
  refine GO λi=>?_;cases e:acc.toList[i]? with
  |none=>
   have:ws.length<=i:=by
    have:=zb.mp e
    rwa[YE,ha.1]at this
   rw[zb.mpr (by rwa[Yb])]
  |some v=>
   obtain⟨k,ek⟩:=ha.2 i v (by simpa using e);rw[Yl,ek];rfl
 refine⟨.ref s.heap.objs.size,_,I.laid (o:=.lst (kvs.map (·.2))) hk (XJ _) ⟨by rw[Yb];exact z,acc.toList,c',?_,by rw[hS]⟩,Z,q _<|I.hok.fresh<|XJ _⟩;rw[ea];exact rf rel
end
inductive EqD(K:Ad)(H:Hp):Nat->V->V->Bool->Prop
 |flat {n:Nat} {x y:V} (fx:SF x=true) (fy:SF y=true):EqD K H n x y (SE x y)
 |lsts {n:Nat} {a b:Addr} {xs ys:List V} {e:Nat->Bool} (ha:SqL K H a xs) (hb:SqL K H b ys) (hl:xs.length=ys.length) (h:∀i x y,xs[i]?=some x->ys[i]?=some y->EqD K H n x y (e i)):EqD K H (n+1) (.ref a) (.ref b) ((List.range xs.length).all e)
 |lens {n:Nat} {a b:Addr} {xs ys:List V} (ha:SqL K H a xs) (hb:SqL K H b ys) (hl:xs.length≠ys.length):EqD K H (n+1) (.ref a) (.ref b) false
 |tups {n:Nat} {a b:Addr} {xs ys:List V} {e:Nat->Bool} (ha:SqT K H a xs) (hb:SqT K H b ys) (h:∀i x y,xs[i]?=some x->ys[i]?=some y->EqD K H n x y (e i)):
   EqD K H (n+1) (.ref a) (.ref b) ((List.range<|min xs.length ys.length).all e&&xs.length == ys.length)
theorem rd(h:SF x=true):SE x x=true:=by cases x<;>first|rfl|(simp[SE];done)|exact absurd (show false=true from h) Yy
section
variable{X:Cx}{pins:List (Addr×Obj)}{σ:St}{H:Hp}{s:Shared}
theorem Vals.at{j:Nat}(r:Vals xs us)(h:j<us.length):∃x,xs[j]?=some x/\RelV x us[j]:=by
 have hl:=r.length;have hx:xs[j]?=some (xs[j]'(by lia)):=Xw uD
 obtain⟨u,e,ru⟩:=r.get hx;rw[Xw h]at e;cases e;exact⟨_,hx,ru⟩
theorem EqD.self(q:EqD X.K H n x y b)(I:Inv X pins σ H s):x=y->b=true:=by
 induction q with
 |flat fx fy=>intro e;subst e;exact rd fx
 |@lsts n a b xs ys e ha hb hl h ih=>
  intro z;cases z;have e1:xs=ys:=I.list_inj ha hb
  subst e1;rw[Ro];intro i hi;have hx:xs[i]?=some (xs[i]'(YK.mp hi)):=Xw _
  exact ih i _ _ hx hx rfl
 |@lens n a b xs ys ha hb hl=>
  intro z;cases z;exact absurd (Xy List.length<|I.list_inj ha hb) hl
 |@tups n a b xs ys e ha hb h ih=>
  intro z;cases z;have e1:xs=ys:=I.tuple_inj ha hb
  subst e1;rw[Nat.min_self,JU,Ro];refine⟨λi hi=>?_,S⟩;have hx:xs[i]?=some (xs[i]'(YK.mp hi)):=Xw _
  exact ih i _ _ hx hx rfl
theorem EqD.at(q:EqD X.K H n x y b)(I:Inv X pins σ H s):∀{A:Around}{u v:Value},A.units+n<cLine->RelV x u->RelV y v->SeqAt.EqAt A s u v b:=by
 induction q with
 |flat fx fy=>intro A u v _ ru rv;exact DP ru rv fx fy
 |@lsts n a b xs ys e ha hb hl h ih=>
  intro A u v hu ru rv;obtain rfl:u=Value.ref a:=ru;obtain rfl:v=Value.ref b:=rv;by_cases Vw:a=b
  .have z:=EqD.self (EqD.lsts ha hb hl h) I (Xy V.ref Vw);rw[z,Vw];exact SeqAt.EqAt.same _
  obtain⟨us,rx,px,_⟩:=I.list ha;obtain⟨vs,ry,py,_⟩:=I.list hb;have l1:=rx.length
  have l2:=ry.length;have z:=SeqAt.RcAt.lists (A:=A) (s:=s) (e:=e) px.isList py.isList (by rw[Yc,Yc];lia) J λj h1 h2=>by obtain⟨x,ex,Pg⟩:=rx.at (j:=j) (by simpa using h1);obtain⟨y,ey,Pf⟩:=ry.at (j:=j) (by simpa using h2);exact ih j x y ex ey (A:=A.in1) (by show A.units+1+n<cLine;lia) (by simpa using Pg) (by simpa using Pf)
  rw[Yc,<-l1]at z;exact vg Vw z
 |@lens n a b xs ys ha hb hl=>
  intro A u v hu ru rv;obtain rfl:u=Value.ref a:=ru;obtain rfl:v=Value.ref b:=rv;obtain⟨us,rx,px,_⟩:=I.list ha;obtain⟨vs,ry,py,_⟩:=I.list hb;have l1:=rx.length
  have l2:=ry.length;have Vw:a≠b:=λz=>by subst z;exact hl (Xy List.length<|I.list_inj ha hb)
  exact vg Vw (SeqAt.RcAt.lists_lengths px.isList py.isList (by rw[Yc,Yc];simp;lia) uD)
 |@tups n a b xs ys e ha hb h ih=>
  intro A u v hu ru rv;obtain rfl:u=Value.ref a:=ru;obtain rfl:v=Value.ref b:=rv;by_cases Vw:a=b
  .have z:=EqD.self (EqD.tups ha hb h) I (Xy V.ref Vw);rw[z,Vw];exact SeqAt.EqAt.same _
  obtain⟨us,rx,px,_⟩:=I.tuple ha;obtain⟨vs,ry,py,_⟩:=I.tuple hb;have l1:=rx.length
  have l2:=ry.length;have z:=SeqAt.RcAt.tuples (A:=A) (s:=s) (e:=e) (show s.heap.IsTuple a us.toArray from px) (show s.heap.IsTuple b vs.toArray from py) uD λj h1 h2=>by obtain⟨x,ex,Pg⟩:=rx.at (j:=j) (by simpa using h1);obtain⟨y,ey,Pf⟩:=ry.at (j:=j) (by simpa using h2);exact ih j x y ex ey (A:=A.in1) (by show A.units+1+n<cLine;omega) (by simpa using Pg) (by simpa using Pf)
  rw[Yc,Yc,<-l1,<-l2]at z;exact vg Vw z
end
section
variable{X:Cx}
inductive rEqD(K:Ad)(neg:Bool)(x:V)(y:V)(H:Hp)(Q:VK):Prop
 |mk (n b p q:_) (_:x=.ref p) (_:y=.ref q) (_:n<=6) (_:EqD K H n x y b) (_:Q (.bl<|if neg then !b else b) H)
theorem q9(hu:X.A.units+8<cLine):WH X (compareOp .Eq) (rEqD X.K false):=by
 intro pins s σ H x y u v Q I ru rv h;obtain⟨n,b,p,q,rfl,rfl,hn,d,hq⟩:=h;obtain rfl:u=Value.ref p:=ru;obtain rfl:v=Value.ref q:=rv;have fin:EP X pins σ Q (.bool b) s:=⟨.bl b,H,I,Z,hq⟩
 cases d with
 |flat fx fy=>exact absurd (show false=true from fx) Yy
 |@lsts n _ _ xs ys e ha hb hl h=>
  obtain⟨us,rx,px,_⟩:=I.list ha;obtain⟨vs,ry,py,_⟩:=I.list hb;have l1:=rx.length
  have l2:=ry.length;refine SeqAt.eq_listAt (e:=e) px.isList py.isList (by rw[Yc,Yc];lia) J (λj h1 h2=>?_) (by rwa[Yc,<-l1]);obtain⟨x,ex,Pg⟩:=rx.at (j:=j) (by simpa using h1);obtain⟨y,ey,Pf⟩:=ry.at (j:=j) (by simpa using h2);exact(h j x y ex ey).at I (A:=X.A.in1) (by show X.A.units+1+n<cLine;lia) (by simpa using Pg) (by simpa using Pf)
 |@lens n _ _ xs ys ha hb hl=>
  obtain⟨us,rx,px,_⟩:=I.list ha;obtain⟨vs,ry,py,_⟩:=I.list hb;have l1:=rx.length
  have l2:=ry.length;exact SeqAt.eq_list_lengthsAt px.isList py.isList (by rw[Yc,Yc];simp;lia) uD fin
 |@tups n _ _ xs ys e ha hb h=>
  obtain⟨us,rx,px,_⟩:=I.tuple ha;obtain⟨vs,ry,py,_⟩:=I.tuple hb;have l1:=rx.length
  have l2:=ry.length;refine SeqAt.eq_tupleAt (e:=e) (show s.heap.IsTuple p us.toArray from px) (show s.heap.IsTuple q vs.toArray from py) uD (λj h1 h2=>?_) (by rwa[Yc,Yc,<-l1,<-l2]);obtain⟨x,ex,Pg⟩:=rx.at (j:=j) (by simpa using h1);obtain⟨y,ey,Pf⟩:=ry.at (j:=j) (by simpa using h2);exact(h j x y ex ey).at I (A:=X.A.in1) (by show X.A.units+1+n<cLine;omega) (by simpa using Pg) (by simpa using Pf)
theorem q8(hu:X.A.units+8<cLine):WH X (compareOp .NotEq) (rEqD X.K true):=by
 intro pins s σ H x y u v Q I ru rv h;obtain⟨n,b,p,q,rfl,rfl,hn,d,hq⟩:=h;obtain rfl:u=Value.ref p:=ru;obtain rfl:v=Value.ref q:=rv;have fin:EP X pins σ Q (.bool<|!b) s:=⟨.bl<|!b,H,I,Z,hq⟩
 cases d with
 |flat fx fy=>exact absurd (show false=true from fx) Yy
 |@lsts n _ _ xs ys e ha hb hl h=>
  obtain⟨us,rx,px,_⟩:=I.list ha;obtain⟨vs,ry,py,_⟩:=I.list hb;have l1:=rx.length
  have l2:=ry.length;refine SeqAt.RcNeAt.lists (e:=e) px.isList py.isList (by rw[Yc,Yc];omega) uD (λj h1 h2=>?_) _ _ _ _ (by rwa[Yc,<-l1]);obtain⟨x,ex,Pg⟩:=rx.at (j:=j) (by simpa using h1);obtain⟨y,ey,Pf⟩:=ry.at (j:=j) (by simpa using h2);exact(h j x y ex ey).at I (A:=X.A.in1) (by show X.A.units+1+n<cLine;omega) (by simpa using Pg) (by simpa using Pf)
 |@lens n _ _ xs ys ha hb hl=>
  obtain⟨us,rx,px,_⟩:=I.list ha;obtain⟨vs,ry,py,_⟩:=I.list hb;have l1:=rx.length
  have l2:=ry.length;exact SeqAt.RcNeAt.lists_lengths px.isList py.isList (by rw[Yc,Yc];simp;omega) uD _ _ _ _ fin
 |@tups n _ _ xs ys e ha hb h=>
  obtain⟨us,rx,px,_⟩:=I.tuple ha;obtain⟨vs,ry,py,_⟩:=I.tuple hb;have l1:=rx.length
  have l2:=ry.length;refine SeqAt.RcNeAt.tuples (e:=e) (show s.heap.IsTuple p us.toArray from px) (show s.heap.IsTuple q vs.toArray from py) uD (λj h1 h2=>?_) _ _ _ _ (by rwa[Yc,Yc,<-l1,<-l2]);obtain⟨x,ex,Pg⟩:=rx.at (j:=j) (by simpa using h1);obtain⟨y,ey,Pf⟩:=ry.at (j:=j) (by simpa using h2);exact(h j x y ex ey).at I (A:=X.A.in1) (by show X.A.units+1+n<cLine;omega) (by simpa using Pg) (by simpa using Pf)
end
end L2
namespace My
open PySem L2
abbrev IL(ns:Ac):List V:=ns.map V.int
theorem XD(ns:Ac):(IL ns).length=ns.length:=Yb ..
theorem Dx(a b:Ac):IL (a++b)=IL a++IL b:=YG ..
theorem ZE(a:Ac)(r:Int):IL (a++[r])=IL a++[.int r]:=YG ..
theorem eX(a:Ac)(n:Nat):IL (a.take n)=(IL a).take n:=List.map_take ..
theorem qZ(a:Ac)(n:Nat):IL (a.drop n)=(IL a).drop n:=List.map_drop ..
theorem Ja(a:Ac)(n:Nat)(z:Int):IL (a.set n z)=(IL a).set n (.int z):=List.map_set ..
theorem UX{i:Nat}{z:Int}(h:ns[i]?=some z):(IL ns)[i]?=some (.int z):=by rw[Yl,h];rfl
theorem WQ{i:Nat}{x:V}(h:(IL ns)[i]?=some x):∃z,x=.int z/\ns[i]?=some z:=by
 rw[Yl]at h;cases e:ns[i]? with
 |none=>rw[e]at h;cases h
 |some z=>rw[e]at h;exact⟨z,(Ye h).symm,Z⟩
theorem Zu{a:Addr}(hn:H a=none)(s:Same H H2):Same H (upd H2 a o):=λb u e=>by rw[Zb (Za e hn)];exact s b u e
theorem Zq{p:Addr}(s:Same H H2)(hp:H2 p=none):Same H (upd H2 p o):=Zu (s.free hp) s
theorem XZ{p:Addr}(hp:H p=none):Same H (upd H p o):=Zq (Same.refl H) hp
theorem ZG(e:Same H H')(h:SqT K H a xs):SqT K H' a xs:=by
 rcases h with (h|⟨o,h⟩)|h
 .exact .inl (.inl<|e _ _ h)
 .exact .inl (.inr ⟨o,e _ _ h⟩)
 .exact .inr h
theorem TY{n:Nat}(h:n<=1000000):n<=sizeLine:=Yv h uB
theorem Zl{n:Nat}(h:n<=1000000):n<sizeLine:=MZ h uB
theorem Gm(hr:Room k A):A.units+8<cLine:=MZ (Nat.add_le_add_left (by decide:8<=64) _) hr.units
theorem Zv{α:Type}{xs:List α}{i:Int}{n:Nat}{x:α}(hi:i=(n:Int))(h:xs[n]?=some x):Wr xs i=some x:=by
 subst hi;have hn:n<xs.length:=(Xr.mp h).1
 unfold Wr Pp;rw[if_pos (Int.natCast_nonneg n),if_pos uD];simpa using h
theorem xZ{c A uw:Prop}[Decidable c](hc:c)(h:A):if decide c=true then A else uw:=by rwa[if_pos (Yp hc)]
theorem IZ{c A uw:Prop}[Decidable c](hc:¬c)(h:uw):if decide c=true then A else uw:=by rwa[if_neg (by simp[hc])]
theorem QS{c A uw:Prop}[Decidable c](hc:c)(h:uw):if (!decide c)=true then A else uw:=by rwa[if_neg (by simp[hc])]
theorem IY{c A uw:Prop}[Decidable c](hc:¬c)(h:A):if (!decide c)=true then A else uw:=by rwa[if_pos (by simp[hc])]
theorem Xh{c A uw:Prop}[Decidable c](h1:c->A)(h2:¬c->uw):if decide c=true then A else uw:=by
 by_cases h:c
 .exact xZ h (h1 h)
 .exact IZ h (h2 h)
theorem WK{c A uw:Prop}[Decidable c](h1:c->uw)(h2:¬c->A):if (!decide c)=true then A else uw:=by
 by_cases h:c
 .exact QS h (h1 h)
 .exact IY h (h2 h)
theorem qY{b:Bool}{A uw:Prop}(h1:b=true->A)(h2:b=false->uw):if b=true then A else uw:=by
 cases b with
 |true=>exact Wb (h1 Z)
 |false=>exact Vq (h2 Z)
theorem Dw{b:Bool}{A uw:Prop}(h1:b=true->uw)(h2:b=false->A):if (!b)=true then A else uw:=by
 cases b with
 |true=>exact Vq (h1 Z)
 |false=>exact Wb (h2 Z)
def SqK(k:Bool)(K:Ad)(H:Hp)(a:Addr)(xs:List V):Prop:=match k with
 |false=>SqL K H a xs
 |true=>SqT K H a xs
theorem SqK.same(e:Same H H')(h:SqK k K H a xs):SqK k K H' a xs:=by
 cases k with
 |false=>exact e.seq h
 |true=>exact ZG e h
theorem SqK.or(h:SqK k K H a xs):SqL K H a xs\/SqT K H a xs:=by
 cases k with
 |false=>exact .inl h
 |true=>exact .inr h
def Dv(K:Ad)(tl:TE):TI:=λσ H R=>tl σ H λx H1=>∃a,x=.ref a/\(((∃xs,SqL K H1 a xs)/\R (Pz K a) H1)\/((∃xs,SqT K H1 a xs)/\R (Py K a) H1))
theorem IX(hl:PE X l tl):PI X tg l (Dv X.K tl):=by
 intro pins s σ H R I h;refine thn (hl pins s σ H _ I h) λv s1 Xv=>?_;obtain⟨x,H1,I1,r1,q1⟩:=Xv;obtain⟨a,e,q⟩:=q1;subst e;cases r1;rcases q with ⟨⟨xs,hq⟩,q⟩|⟨⟨xs,hq⟩,q⟩
 .obtain⟨XT,rv,p,hz⟩:=I1.list hq;refine yS p.isList ?_;refine⟨s1.heap.objs.size,[s1.heap.objs.size],_,_,H1,Z,I1.kept (t':=s1.toks) λb o e=>Xc _ e,Ek a _,⟨_,Yk _ Z,Z,Z⟩,λb hb=>?_,q⟩;have e:b=s1.heap.objs.size:=by simpa using hb
  subst e;exact I1.fpOk (XJ _) (I1.hok.fresh<|XJ _)
 .obtain⟨XT,rv,p,hz⟩:=I1.tuple hq;refine wpAny_pyIter_tuple (show s1.heap.IsTuple a XT.toArray from p) ?_;refine⟨s1.heap.objs.size,[s1.heap.objs.size],_,_,H1,Z,I1.kept (t':=s1.toks) λb o e=>Xc _ e,fL a _,⟨_,Yk _ Z,Z,Z⟩,λb hb=>?_,q⟩;have e:b=s1.heap.objs.size:=by simpa using hb
  subst e;exact I1.fpOk (XJ _) (I1.hok.fresh<|XJ _)
theorem Du{g:TG}{tb:TS}{D:Ends}(Pv:Nat->St->Hp->Prop)(h0:Pv 0 σ H)(hl:∀i σ H,i<=xs.length->Pv i σ H->SqK k K H a xs)
  (hs:∀i x σ H,xs[i]?=some x->Pv i σ H->g x σ H λσ2 H2=>tb {D with nx:=Pv<|i+1,ct:=Pv<|i+1,bk:=D.nx} σ2 H2)(hd:∀σ H,Pv xs.length σ H->D.nx σ H):
  (((∃xs,SqL K H a xs)/\∃W:Nat->Nat->St->Hp->Prop,(∃m,W 0 m σ H)/\∀i m σ H,W i m σ H->
   ((Pz K a).stop i H/\D.nx σ H)\/((Pz K a).go i H/\∃N:St->Hp->Prop,(∀σ' H',N σ' H'->∃m',m'<m/\W (i+1) m' σ' H')/\∀x H',(Pz K a).yld i H x H'->g x σ H' λσ2 H2=>tb {D with nx:=N,ct:=N,bk:=D.nx} σ2 H2))\/
  ((∃xs,SqT K H a xs)/\∃W:Nat->Nat->St->Hp->Prop,(∃m,W 0 m σ H)/\∀i m σ H,W i m σ H->
   ((Py K a).stop i H/\D.nx σ H)\/((Py K a).go i H/\∃N:St->Hp->Prop,(∀σ' H',N σ' H'->∃m',m'<m/\W (i+1) m' σ' H')/\∀x H',(Py K a).yld i H x H'->g x σ H' λσ2 H2=>tb {D with nx:=N,ct:=N,bk:=D.nx} σ2 H2))):=by
 cases k with
 |false=>exact .inl ⟨⟨xs,hl 0 σ H (Yj _) h0⟩,ym (K:=K) (a:=a) (xs:=xs) Pv h0 hl hs hd⟩
 |true=>exact .inr ⟨⟨xs,hl 0 σ H (Yj _) h0⟩,tJ (K:=K) (a:=a) (xs:=xs) Pv h0 hl hs hd⟩
def PairV(H:Hp)(v:V)(p:Int×Int):Prop:=∃t,v=.ref t/\H t=some (.tup [.int p.1,.int p.2])
def PairsV(H:Hp)(xs:List V)(ps:Aa):Prop:=xs.length=ps.length/\∀(i:Nat)(p:Int×Int),ps[i]?=some p->∃v,xs[i]?=some v/\PairV H v p
theorem PairV.same(s:Same H H')(h:PairV H v p):PairV H' v p:=by obtain⟨t,e,q⟩:=h;exact⟨t,e,s _ _ q⟩
theorem PairsV.same(s:Same H H')(h:PairsV H xs ps):PairsV H' xs ps:=⟨h.1,λi p e=>by obtain⟨v,e1,q⟩:=h.2 i p e;exact⟨v,e1,q.same s⟩⟩
theorem PairsV.at(h:PairsV H xs ps){i:Nat}{v:V}(e:xs[i]?=some v):∃p,ps[i]?=some p/\PairV H v p:=by
 have hi:i<xs.length:=(Xr.mp e).1;have hp:i<ps.length:=by rwa[<-h.1]
 obtain⟨v',e1,q⟩:=h.2 i ps[i] (Xw hp);rw[e]at e1;cases e1;exact⟨_,Xw hp,q⟩
theorem PairsV.nil:PairsV H [] []:=⟨Z,λi p e=>by simp at e⟩
theorem PairsV.snoc(h:PairsV H xs ps)(q:PairV H v p):PairsV H (xs++[v]) (ps++[p]):=by
 refine⟨by rw[Xu,Xu,h.1];rfl,λi p' e=>?_⟩;by_cases hi:i<ps.length
 .rw[Ys hi]at e;rw[Ys (by rwa[h.1])];exact h.2 i p' e
 .have hl:i=ps.length:=by
   have:=(Xr.mp e).1
   rw[Xu,Yu]at this;lia
  subst hl;rw[Yo (XJ _),Ve]at e;rw[Yo (by rw[h.1];exact XJ _),h.1,Ve];have e':p=p':=Ye e
  subst e';exact⟨v,Z,q⟩
theorem PairsV.drop(h:PairsV H xs ps)(n:Nat):PairsV H (xs.drop n) (ps.drop n):=by refine⟨by rw[Wt,Wt,h.1],λi p e=>?_⟩;rw[Fd]at e ⊢;exact h.2 _ p e
theorem PairsV.take(h:PairsV H xs ps)(n:Nat):PairsV H (xs.take n) (ps.take n):=by
 refine⟨by rw[Yn,Yn,h.1],λi p e=>?_⟩;by_cases hi:i<n
 .rw[gq hi]at e ⊢;exact h.2 _ p e
 .rw[List.getElem?_take_eq_none J]at e;cases e
theorem PairsV.app(h:PairsV H xs ps)(h2:PairsV H ys qs):PairsV H (xs++ys) (ps++qs):=by
 refine⟨by rw[Xu,Xu,h.1,h2.1],λi p e=>?_⟩;by_cases hi:i<ps.length
 .rw[Ys hi]at e;rw[Ys (by rwa[h.1])];exact h.2 i p e
 .rw[Yo J]at e;rw[Yo (by rw[h.1];omega),h.1];exact h2.2 _ p e
theorem qX:¬(("places":Str)="ties"):=by decide +kernel
def wf(n:Int)(tl:Addr):List (Str×V):=XM "ties" (.ref tl) (XM "places" (.int n) [])
theorem IW(n:Int)(tl:Addr):(wf n tl).lookup ("places":Str)=some (.int n):=by unfold wf;rw[DX,if_neg qX,DX,if_pos Z]
theorem Pe(n:Int)(tl:Addr):(wf n tl).lookup ("ties":Str)=some (.ref tl):=by unfold wf;rw[DX,if_pos Z]
def WebAt(C:Addr)(H:Hp)(w:Addr)(n:Int)(ps:Aa):Prop:=∃dx tl xs,H w=some (.ins C dx<|wf n tl)/\H tl=some (.lst xs)/\PairsV H xs ps
theorem WebAt.same(s:Same H H')(h:WebAt C H w n ps):WebAt C H' w n ps:=by obtain⟨dx,tl,xs,a,b,c⟩:=h;exact⟨dx,tl,xs,s _ _ a,s _ _ b,c.same s⟩
def Zz(n:Int)(ps:Aa):Prop:=1<=n/\n<=14/\ps.length<=30/\∀p∈ps,0<=p.1/\p.1<n/\0<=p.2/\p.2<n
def eW(K:Ad)(mg:Af)(x qual:Str)(st:Stmt)(fs:List Str):Prop:=∃C f fd,mg x=some (.ref C)/\Fun K "__init__" qual st f fd/\Cls K C/\Mk K C f/\∀a∈fs,NoAttr K C a
theorem Dt{mg:Af}{oc:Value}{od an:Option Addr}{Tz:Array (Option Value)}{kV doc pm XC ct:Value}(X:K.In h)(G:h.Ns mainGlobals mg)
  (aC:PySem.W.nsIn K mainGlobals x=some (some<|.ref C))(a:PySem.W.findIn K (.ref C) "__init__"=some (some<|.ref f))(i:PySem.W.isFn K (.ref f)=true)
  (l:K.lookup f=some ⟨oc,od,.func<|PySem.W.fnOf "__init__" qual (Le st) (QU st) (Xt st) .none kV doc pm an XC ct,Tz⟩)(c:PySem.W.codeIn K XC qual=true)(k:PySem.W.keepIn K (.ref f)=true)
  (pg:PySem.W.plainGet K C Str.empty=true)(hd:PySem.W.hasDictIn K C=true)(po:PySem.W.plainOver K C=true)(sa:PySem.W.findIn K (.ref C) "__setattr__"=some (some<|.builtin "object.__setattr__"))(mk:PySem.W.makesIn K C=true)(kc:PySem.W.keepIn K (.ref C)=true)
  (na:∀a∈fs,PySem.W.findIn K (.ref C) a=some none):eW K mg x qual st fs:=
 ⟨C,f,_,EU X G aC,MK l c k,⟨pg,hd,po,sa⟩,⟨mk,a,i,kc⟩,na⟩
theorem UW{mg:Af}{z:Int}{v:Value}(X:K.In h)(G:h.Ns mainGlobals mg)(a:PySem.W.nsIn K mainGlobals x=some (some v))(e:∃tk,v=.int z tk):∃tk,mg x=some (.int z tk):=by obtain⟨tk,rfl⟩:=e;exact⟨tk,EU X G a⟩
theorem Nz{x:V}{A uw:St->Hp->Prop}(h:A (σ.set i (some x)) H):Ls i x σ H λσ2 H2=>tYes σ2 H2 λb H3=>if b=true then A σ2 H3 else uw σ2 H3:=
 (show if true=true then A (σ.set i<|some x) H else uw (σ.set i<|some x) H from Wb h)
theorem nm{x:V}{Q:St->Hp->Prop}(h:Q (σ.set i (some x)) H):Ls i x σ H Q:=h
section
variable{K:Ad}{a:Addr}{xs:List V}{g:TG}{tt:TT}{te:TE}{o:Nat}{fr:List Nat}{σ:St}{H:Hp}{Q:VK}
abbrev IV(Pv:Nat->List V->Hp->Prop)(g:TG)(tt:TT)(te:TE)(o:Nat)(fr:List Nat)(σ:St)(i:Nat)(x:V)(ys:List V)(H:Hp):Prop:=
 ∀uz:Nat->List V->Hp->Prop,(∀ys H,Pv (i+1) ys H->uz (i+1) ys H)->g x (σC o fr σ) H λσ2 H2=>tt σ2 H2 λb H3=>if b=true then te σ2 H3 λy H4=>uz (i+1) (ys++[y]) H4 else uz (i+1) ys H3
theorem QR(Pv:Nat->List V->Hp->Prop)(h0:Pv 0 [] H)(hz:xs.length<sizeLine)(hl:∀i ys H,i<=xs.length->Pv i ys H->SqL K H a xs/\ys.length<=i)
  (hs:∀i x ys H,xs[i]?=some x->Pv i ys H->IV Pv g tt te o fr σ i x ys H)(hd:∀ys H,Pv xs.length ys H->∀p,H p=none->Q (.ref p) (upd H p<|.lst ys)):MI (Pz K a) g tt te o fr σ H Q:=by
 refine⟨λi m ys H=>m=xs.length-i/\i<=xs.length/\Pv i ys H,⟨xs.length,S,Yj _,h0⟩,?_⟩;rintro i m ys H ⟨rfl,hi,p⟩;obtain⟨q,hy⟩:=hl i ys H hi p;by_cases Xn:i<xs.length
 .refine .inr ⟨⟨xs,xs[i],q,by simp[Xn]⟩,J,λx H' zz=>?_⟩;obtain⟨e,y⟩:=zz;subst e;have hx:=y xs q
  exact hs i x ys _ hx p (λj ys H=>∃m',m'<xs.length-i/\m'=xs.length-j/\j<=xs.length/\Pv j ys H) λys H p'=>⟨xs.length-(i+1),uE,Z,Xn,p'⟩
 .have e:i=xs.length:=J;subst e;exact .inl ⟨⟨xs,q,XJ _⟩,J,hd ys H p⟩
theorem Ds(Pv:Nat->List V->Hp->Prop)(h0:Pv 0 [] H)(hz:xs.length<sizeLine)(hl:∀i ys H,i<=xs.length->Pv i ys H->SqT K H a xs/\ys.length<=i)
  (hs:∀i x ys H,xs[i]?=some x->Pv i ys H->IV Pv g tt te o fr σ i x ys H)(hd:∀ys H,Pv xs.length ys H->∀p,H p=none->Q (.ref p) (upd H p<|.lst ys)):MI (Py K a) g tt te o fr σ H Q:=by
 refine⟨λi m ys H=>m=xs.length-i/\i<=xs.length/\Pv i ys H,⟨xs.length,S,Yj _,h0⟩,?_⟩;rintro i m ys H ⟨rfl,hi,p⟩;obtain⟨q,hy⟩:=hl i ys H hi p;by_cases Xn:i<xs.length
 .refine .inr ⟨⟨xs,xs[i],q,by simp[Xn]⟩,uD,λx H' zz=>?_⟩;obtain⟨e,y⟩:=zz;subst e;have hx:=y xs q
  exact hs i x ys _ hx p (λj ys H=>∃m',m'<xs.length-i/\m'=xs.length-j/\j<=xs.length/\Pv j ys H) λys H p'=>⟨xs.length-(i+1),uD,Z,Xn,p'⟩
 .have e:i=xs.length:=uD;subst e;exact .inl ⟨⟨xs,q,XJ _⟩,uD,hd ys H p⟩
theorem Dr(Pv:Nat->List V->Hp->Prop)(h0:Pv 0 [] H)(hz:xs.length<sizeLine)(hl:∀i ys H,i<=xs.length->Pv i ys H->SqK k K H a xs/\ys.length<=i)
  (hs:∀i x ys H,xs[i]?=some x->Pv i ys H->IV Pv g tt te o fr σ i x ys H)(hd:∀ys H,Pv xs.length ys H->∀p,H p=none->Q (.ref p) (upd H p<|.lst ys)):
  ((∃xs,SqL K H a xs)/\MI (Pz K a) g tt te o fr σ H Q)\/((∃xs,SqT K H a xs)/\MI (Py K a) g tt te o fr σ H Q):=by
 cases k with
 |false=>exact .inl ⟨⟨xs,(hl 0 [] H (Yj _) h0).1⟩,QR Pv h0 hz hl hs hd⟩
 |true=>exact .inr ⟨⟨xs,(hl 0 [] H (Yj _) h0).1⟩,Ds Pv h0 hz hl hs hd⟩
theorem xY(Pv:Nat->List V->Hp->Prop)(h0:Pv 0 [] H)(hz:n<sizeLine)(hl:∀i ys H,i<=n->Pv i ys H->ys.length<=i)
  (hs:∀i ys H,i<n->Pv i ys H->IV Pv g tt te o fr σ i (.int<|lo+i) ys H)(hd:∀ys H,Pv n ys H->∀p,H p=none->Q (.ref p) (upd H p<|.lst ys)):MI (Lq lo n) g tt te o fr σ H Q:=by
 refine⟨λi m ys H=>m=n-i/\i<=n/\Pv i ys H,⟨n,S,Yj _,h0⟩,?_⟩;rintro i m ys H ⟨rfl,hi,p⟩;have hy:=hl i ys H hi p
 by_cases Xn:i<n
 .refine .inr ⟨Xn,J,λx H' zz=>?_⟩;obtain⟨e,y⟩:=zz;subst e;subst y;exact hs i ys _ Xn p (λj ys H=>∃m',m'<n-i/\m'=n-j/\j<=n/\Pv j ys H) λys H p'=>⟨n-(i+1),uE,Z,Xn,p'⟩
 .have e:i=n:=J;subst e;exact .inl ⟨XJ _,J,hd ys H p⟩
end
theorem IU{α:Type}{l:List α}(h:l.Nodup){i j:Nat}{x:α}(a:l[i]?=some x)(b:l[j]?=some x):i=j:=by obtain⟨h1,e1⟩:=Xr.mp a;obtain⟨h2,e2⟩:=Xr.mp b;exact(List.getElem_inj h).mp (e1.trans e2.symm)
theorem ZW{α:Type}{l:List α}{x d:α}(h:l[i]?=some x):l.getD i d=x:=by rw[Ya,h];rfl
theorem IT{α:Type}{l:List α}{x:α}(h:l.Nodup)(hx:x∉l):(l++[x]).Nodup:=by rw[YM];refine⟨h,S,λa ha b hb=>?_⟩;rw[XG]at hb;subst hb;rintro rfl;exact hx ha
theorem eV{g:TG}{tb:TS}{D:Ends}(Pv:Nat->St->Hp->Prop)(h0:Pv 0 σ H)(hl:∀i σ H,i<=xs.length->Pv i σ H->SqL K H a xs)
  (hs:∀(i:Nat) x σ H (p:Addr),H p=none->xs[i]?=some x->Pv i σ H->g (.ref p) σ (upd H p<|.tup [.int i,x]) λσ2 H2=>tb {D with nx:=Pv<|i+1,ct:=Pv<|i+1,bk:=D.nx} σ2 H2)(hd:∀σ H,Pv xs.length σ H->D.nx σ H):
  ∃W:Nat->Nat->St->Hp->Prop,(∃m,W 0 m σ H)/\∀i m σ H,W i m σ H->
   ((Gn K a).stop i H/\D.nx σ H)\/((Gn K a).go i H/\∃N:St->Hp->Prop,(∀σ' H',N σ' H'->∃m',m'<m/\W (i+1) m' σ' H')/\∀x H',(Gn K a).yld i H x H'->g x σ H' λσ2 H2=>tb {D with nx:=N,ct:=N,bk:=D.nx} σ2 H2):=by
 refine⟨λi m σ H=>m=xs.length-i/\i<=xs.length/\Pv i σ H,⟨xs.length,S,Yj _,h0⟩,?_⟩;rintro i m σ H ⟨rfl,hi,p⟩;have q:=hl i σ H hi p
 by_cases Xn:i<xs.length
 .refine .inr ⟨⟨xs,xs[i],q,by simp[Xn]⟩,Pv<|i+1,λσ' H' p'=>⟨xs.length-(i+1),uD,Z,Xn,p'⟩,λx H' zz=>?_⟩;obtain⟨T,y,hT,ex,eH,hy⟩:=zz;subst ex eH;exact hs i y σ H T hT (hy xs q) p
 .have e:i=xs.length:=J;subst e;exact .inl ⟨⟨xs,q,XJ _⟩,hd σ H p⟩
theorem qW{i:Int}(h0:0<=i)(h1:i.toNat<=xs.length):Xe xs (some i) none=xs.drop i.toNat:=by
 have e:HT.Vr xs.length 0 (some i)=i.toNat:=by show(if i<0 then (i+(xs.length:Int)).toNat else min i.toNat xs.length)=i.toNat;rw[if_neg J];lia
 unfold Xe;rw[e,HT.VU];exact YO (by rw[Wt];exact XJ _)
theorem qV{i:Int}(h0:0<=i)(h1:i.toNat<=xs.length):Xe xs none (some i)=xs.take i.toNat:=by
 have e:HT.Vr xs.length xs.length (some i)=i.toNat:=by show(if i<0 then (i+(xs.length:Int)).toNat else min i.toNat xs.length)=i.toNat;rw[if_neg uD];omega
 unfold Xe;rw[e,HT.VU,uU,MY]
end My
namespace L2
open PySem PySem.Spec PyProof.Rows
section
variable{X:Cx}{a o e:Expr}{es:List Expr}{ta to:TE}{t:TA}{pos:Pos}
theorem Zc(K:Ad)(h:X.K=K:=by rfl):Gq X (rIxL K):=h▸sN
theorem ZK(K:Ad)(h:X.K=K:=by rfl):Gq X (rIxT K):=h▸sM
theorem Pd(K:Ad)(h:X.K=K:=by rfl):yf X (rSlL K):=h▸sJ
theorem Dq(K:Ad)(h:X.K=K:=by rfl):WH X (compareOp .In) (λx y H Q=>∃p xs,y=.ref p/\(SqL K H p xs\/SqT K H p xs)/\SF x=true/\xs.all SF=true/\Q (.bl<|Gp x xs) H):=h▸Zx8
theorem Gk(K:Ad)(h:X.K=K:=by rfl):WH X (compareOp .NotIn) (λx y H Q=>∃p xs,y=.ref p/\(SqL K H p xs\/SqT K H p xs)/\SF x=true/\xs.all SF=true/\Q (.bl<|!Gp x xs) H):=h▸ZF4
theorem qU(K:Ad)(hu:X.A.units+8<cLine)(h:X.K=K:=by rfl):WH X (compareOp .Eq) (rEqD K false):=h▸q9 hu
theorem qT(K:Ad)(hu:X.A.units+8<cLine)(h:X.K=K:=by rfl):WH X (compareOp .NotEq) (rEqD K true):=h▸q8 hu
theorem qS(K:Ad)(h:X.K=K:=by rfl):WH X (binaryOp .Add) (rCatT K):=h▸sP
theorem Zp(K:Ad)(he:PE X e ta)(hb:attributeBase e f X.env (eval e X.env)=eval e X.env)(h:X.K=K:=by rfl):PE X (.Attribute e f pos) (DW K ta f):=h▸sZ he hb
theorem Zk(K:Ad)(h:X.K=K:=by rfl):Vx X (.builtin "len") (λxs H Q=>∃p ys,xs=[.ref p]/\(SqL K H p ys\/SqT K H p ys)/\Q (.int ys.length) H):=h▸ZW4
theorem Gj(K:Ad)(h:X.K=K:=by rfl):Vx X (.type "list") (λxs H Q=>∃p ys,xs=[.ref p]/\(SqL K H p ys\/SqT K H p ys)/\∀l,H l=none->Q (.ref l) (upd H l<|.lst ys)):=h▸ZU4
theorem ZF(K:Ad)(h:X.K=K:=by rfl):Vx X (.type "tuple") (λxs H Q=>∃p ys,xs=[.ref p]/\((SqL K H p ys/\∀l,H l=none->Q (.ref l) (upd H l<|.tup ys))\/(SqT K H p ys/\Q (.ref p) H))):=h▸Zj4
theorem xX(K:Ad)(hc:X.calm=true)(h:X.K=K:=by rfl):Vx X (.builtin "sum") (λxs H Q=>∃(p:Addr)(ns:Ac),xs=[.ref p]/\SqL K H p (ns.map V.int)/\Q (.int ns.sum) H):=h▸Zk4 hc
theorem Zc9(K:Ad)(hc:X.calm=true)(h:X.K=K:=by rfl):Vx X (.type "set") (λxs H Q=>∃p ns,xs=[.ref p]/\SqL K H p (ns.map V.int)/\ns.length+1<scanBound/\
  ∀l,H l=none->Q (.ref l) (upd H l (.set (λk=>(seen ns).any (· == k)) (seen ns).length))):=h▸Zl4 hc
theorem ZQ(K:Ad)(hl:PE X l tl)(h:X.K=K:=by rfl):PI X tg l (Lp K tl):=h▸tR hl
theorem Gi(K:Ad)(hl:PE X l tl)(h:X.K=K:=by rfl):PI X tg l (Ej K tl):=h▸tQ hl
theorem Ny(K:Ad)(hl:PE X l tl)(h:X.K=K:=by rfl):PI X tg l (My.Dv K tl):=h▸My.IX hl
theorem Gh(K:Ad){elts:List Expr}{x1:Nat}{So:Pos}{a:Expr}{ta:TA}{p pos:Pos}(hg:Gl X "enumerate")(hm:X.mg "enumerate"=none)(ha:PA X [a] ta)(hs:starEach [a] X.env=[(false,eval a X.env)]:=by rfl)(h:X.K=K:=by rfl):
  PI X (.Tuple elts x1 So) (.Call (.Name "enumerate" p) [a] [] pos) (Lc K ta):=h▸rj hg hm ha hs
theorem Qj(K:Ad){es:List Expr}{k:Nat}{t:MV}{n:Nat}(hc:X.calm=true)(ht:Ep X es t)
  (hn:(assignEach es X.env).length=n:=by rfl)(Vb:(assignEach es X.env).findIdx? (·.1)=none:=by rfl)(h:X.K=K:=by rfl):PG X (.Tuple es k pos) (Jx K n t):=h▸t5 hc ht hn Vb
theorem UJ(K:Ad){name:Str}{apos WU:Pos}{T id:String}{r:V->List V->Hp->VK->Prop}(pa:PlainAttrs T)(slot:Slot T name id)(Ji:typeOf (.builtin id)=pure (.type "method_descriptor"))(hm:ye X id r)(ho:PE X o to)(ha:PA X (e::es) t)
  (UZ:attributeBase o name X.env (eval o X.env)=eval o X.env:=by rfl)
  (Jh:((backTo WU<|starEach (e::es) X.env).all (λx=>!x.1)&&(backToKw WU<|keywordEach [] X.env).all (λx=>x.1.isSome)
   && decide ((e::es).length+([]:List Keyword).length+(if ([]:List Keyword).isEmpty then 0 else 1)<30))=true:=by rfl)
  (UY:(apos.endLine == WU.line)=true:=by rfl)(hs:starEach (e::es) X.env=(false,eval e X.env)::starEach es X.env:=by rfl)(Sk:(backTo WU<|starEach es X.env).any (·.1)=false:=by rfl)(h:X.K=K:=by rfl):
  PE X (.Call (.Attribute o name apos) (e::es) [] WU) (fj K T r to t):=h▸sF pa slot Ji hm ho ha UZ Jh UY hs Sk
theorem qR(K:Ad){name:Str}{apos WU:Pos}{T id:String}{r:V->List V->Hp->VK->Prop}(pa:PlainAttrs T)(slot:Slot T name id)(Ji:typeOf (.builtin id)=pure (.type "method_descriptor"))(hm:ye X id r)(ho:PE X o to)
  (UZ:attributeBase o name X.env (eval o X.env)=eval o X.env:=by rfl)(UY:(apos.endLine == WU.line)=true:=by rfl)(h:X.K=K:=by rfl):PE X (.Call (.Attribute o name apos) [] [] WU) (DM K T r to):=h▸sG pa slot Ji hm ho UZ UY
end
end L2
namespace My
abbrev mk(m:Ac)(i:Nat):Int:=m.getD i 0
def pm(m:Ac)(a b:Nat):Ac:=
 if min (mk m a) (mk m b)<max (mk m a) (mk m b) then m.map (λk=>if k=max (mk m a) (mk m b) then min (mk m a) (mk m b) else k) else m
def lm(m:Ac)(a b:Nat):Ac:=
 if mk m a≠mk m b then m.map (λk=>if k=mk m b then mk m a else k) else m
def SameP(m l:Ac):Prop:=m.length=l.length/\∀i j,i<m.length->j<m.length->(mk m i=mk m j↔mk l i=mk l j)
theorem xW(m:Ac)(f:Int->Int)(h:i<m.length):mk (m.map f) i=f (mk m i):=by simp[mk,Ya,Yl,Xw h]
theorem Pc(m:Ac)(a b:Nat):(pm m a b).length=m.length:=by unfold pm;split<;>simp
theorem xV(m:Ac)(a b:Nat):(lm m a b).length=m.length:=by unfold lm;split<;>simp
def Gg(m:Ac)(a b i j:Nat):Prop:=mk m i=mk m j\/((mk m i=mk m a\/mk m i=mk m b)/\(mk m j=mk m a\/mk m j=mk m b))
theorem IS{x y p q:Int}:((if x=q then p else x)=(if y=q then p else y))↔(x=y\/((x=p\/x=q)/\(y=p\/y=q))):=by grind
theorem eS{x y p:Int}:x=y↔(x=y\/((x=p\/x=p)/\(y=p\/y=p))):=⟨.inl,λh=>h.elim id λh=>(h.1.elim id id).trans (h.2.elim id id).symm⟩
theorem qQ(hi:i<m.length)(hj:j<m.length):mk (pm m a b) i=mk (pm m a b) j↔Gg m a b i j:=by
 unfold pm Gg;split
 .rename_i h;rw[xW _ _ hi,xW _ _ hj];by_cases xU:mk m a<mk m b
  .rw[va (GC xU),JD (GC xU)];exact IS
  .rw[JE (GB.mp xU),uZ<|GB.mp xU,Or.comm (a:=mk m i=mk m a),Or.comm (a:=mk m j=mk m a)];exact IS
 .rename_i h;have hh:=GB.mp h
  rw[show mk m a=mk m b from Int.le_antisymm (GD (Int.le_max_left _ _)<|GD hh<|Int.min_le_right _ _) (GD (Int.le_max_right _ _)<|GD hh<|Int.min_le_left _ _)];exact eS
theorem Dn(hi:i<m.length)(hj:j<m.length):mk (lm m a b) i=mk (lm m a b) j↔Gg m a b i j:=by
 unfold lm Gg;split
 .rename_i h;rw[xW _ _ hi,xW _ _ hj];exact IS
 .rename_i h;rw[show mk m a=mk m b from Classical.not_not.mp h];exact eS
theorem SameP.step{m l:Ac}(s:SameP m l){a b:Nat}(ha:a<m.length)(hb:b<m.length):SameP (pm m a b) (lm l a b):=by obtain⟨hl,h⟩:=s;refine⟨by rw[Pc,xV,hl],λi j hi hj=>?_⟩;rw[Pc]at hi hj;rw[qQ hi hj,Dn uD uD];unfold Gg;rw[h i j hi hj,h i a hi ha,h i b hi hb,h j a hj ha,h j b hj hb]
def Xs(n:Nat)(es:List (Nat×Nat)):Ac:=es.foldl (λm e=>pm m e.1 e.2) ((List.range n).map λ(i:Nat)=>(i:Int))
def Xb(n:Nat)(es:List (Nat×Nat)):Ac:=es.foldl (λm e=>lm m e.1 e.2) ((List.range n).map λ(i:Nat)=>(i:Int))
theorem ZD(n:Nat)(es:List (Nat×Nat)):(Xs n es).length=n:=by
 have:∀(es:List (Nat×Nat))(m:Ac),(es.foldl (λm e=>pm m e.1 e.2) m).length=m.length:=by
  intro es
  induction es with
  |nil=>intro m;rfl
  |cons e es ih=>intro m;rw[yQ,ih,Pc]
 unfold Xs;rw[this];simp
theorem ZB(n:Nat)(es:List (Nat×Nat)):(Xb n es).length=n:=by
 have:∀(es:List (Nat×Nat))(m:Ac),(es.foldl (λm e=>lm m e.1 e.2) m).length=m.length:=by
  intro es
  induction es with
  |nil=>intro m;rfl
  |cons e es ih=>intro m;rw[yQ,ih,xV]
 unfold Xb;rw[this];simp
theorem qP(n:Nat)(es:List (Nat×Nat))(e:Nat×Nat):Xs n (es++[e])=pm (Xs n es) e.1 e.2:=by unfold Xs;rw[yY];rfl
theorem Nx(n:Nat)(es:List (Nat×Nat))(e:Nat×Nat):Xb n (es++[e])=lm (Xb n es) e.1 e.2:=by unfold Xb;rw[yY];rfl
theorem xT:∀{es:List (Nat×Nat)},(∀e∈es,e.1<n/\e.2<n)->SameP (Xs n es) (Xb n es):=by
 intro es;have key:∀(es:List (Nat×Nat))(m l:Ac),SameP m l->m.length=n->(∀e∈es,e.1<n/\e.2<n)->SameP (es.foldl (λm e=>pm m e.1 e.2) m) (es.foldl (λm e=>lm m e.1 e.2) l):=by
  intro es
  induction es with
  |nil=>intro m l s _ _;exact s
  |cons e es ih=>
   intro m l s hm he;have h1:=he e Xd
   exact ih _ _ (s.step uD uD) (by rwa[Pc]) λx hx=>he x (Yf _ hx)
 exact key es _ _ ⟨Z,λi j _ _=>Iff.rfl⟩ S
def Sj(g:List (Int×Ac))(place k:Int):List (Int×Ac):=
 if k∈g.map (·.1) then g.map (λkv=>if kv.1=k then (kv.1,kv.2++[place]) else kv) else g++[(k,[place])]
def Xp(M:Ac):Nat->List (Int×Ac)
 |0=>[]
 |i+1=>Sj (Xp M i) (i:Int) (mk M i)
def IQ(M:Ac):List (Int×Ac):=Xp M M.length
theorem xS(g:List (Int×Ac))(p k:Int):(Sj g p k).map (·.1)=if k∈g.map (·.1) then g.map (·.1) else g.map (·.1)++[k]:=by
 unfold Sj;split
 .rw[LB];refine VW λkv _=>?_;show(if kv.1=k then (kv.1,kv.2++[p]) else kv).1=kv.1
  split<;>rfl
 .simp
theorem qO(h:(g.map (·.1)).Nodup):((Sj g p k).map (·.1)).Nodup:=by
 rw[xS];split
 .exact h
 .rename_i hk;rw[YM];refine⟨h,S,λa ha b hb=>?_⟩;rw[XG]at hb;subst hb;rintro rfl;exact hk ha
theorem qN(M:Ac):∀i,((Xp M i).map (·.1)).Nodup
 |0=>by simp[Xp]
 |i+1=>qO (qN M i)
theorem UU(M:Ac):∀i kv,kv∈Xp M i->∀z:Int,z∈kv.2↔(0<=z/\z<(i:Int)/\mk M z.toNat=kv.1)
 |0,kv,h,z=>by simp[Xp]at h
 |i+1,kv,h,z=>by
  unfold Xp Sj at h;split at h
  .rename_i hk;obtain⟨xR,h0,e⟩:=Yz.mp h;have ih:=UU M i xR h0 z
   by_cases hc:xR.1=mk M i
   .rw[if_pos hc]at e;subst e;rw[XE,ih,XG];constructor
    .rintro(⟨a,b,c⟩|rfl)
     .exact⟨a,J,c⟩
     .exact⟨J,J,by simpa using hc.symm⟩
    .rintro⟨a,b,c⟩;by_cases hz:z<(i:Int)
     .exact .inl ⟨a,hz,c⟩
     .exact .inr J
   .rw[if_neg hc]at e;subst e;rw[ih];constructor
    .rintro⟨a,b,c⟩;exact⟨a,uD,c⟩
    .rintro⟨a,b,c⟩;refine⟨a,?_,c⟩;by_cases hz:z<(i:Int)
     .exact hz
     .have e:z.toNat=i:=uE;rw[e]at c;exact absurd c.symm hc
  .rename_i hk;rcases XE.mp h with h0|h0
   .have ih:=UU M i kv h0 z;rw[ih];constructor
    .rintro⟨a,b,c⟩;exact⟨a,J,c⟩
    .rintro⟨a,b,c⟩;refine⟨a,?_,c⟩;by_cases hz:z<(i:Int)
     .exact hz
     .have e:z.toNat=i:=uE;rw[e]at c;exact absurd (Yz.mpr ⟨kv,h0,c.symm⟩) hk
   .rw[XG]at h0;subst h0;simp only[XG];constructor
    .rintro rfl;exact⟨J,J,S⟩
    .rintro⟨a,b,c⟩;by_cases hz:z<(i:Int)
     .exfalso;have key:=grpA_key M i z.toNat J
      rw[c]at key;exact hk key
     .lia
where
 grpA_key (M:Ac):∀i j,j<i->mk M j∈(Xp M i).map (·.1)
  |0,j,h=>absurd h (Ws j)
  |i+1,j,h=>by
   show mk M j∈(Sj (Xp M i) (i:Int)<|mk M i).map (·.1);rw[xS];by_cases hj:j<i
   .have:=grpA_key M i j hj
    split
    .exact this
    .exact Yd _ this
   .have e:j=i:=J;subst e;split
    .assumption
    .simp
theorem grpA_key(h:j<i):mk M j∈(Xp M i).map (·.1):=UU.grpA_key M i j h
theorem xQ(M:Ac):∀i k,k∈(Xp M i).map (·.1)->∃j,j<i/\mk M j=k
 |0,k,h=>by simp[Xp]at h
 |i+1,k,h=>by
  have h:k∈(Sj (Xp M i) (i:Int)<|mk M i).map (·.1):=h;rw[xS]at h;have old:k∈(Xp M i).map (·.1)->∃j,j<i+1/\mk M j=k:=λq=>by obtain⟨j,hj,e⟩:=xQ M i k q;exact⟨j,J,e⟩
  split at h
  .exact old h
  .rcases XE.mp h with q|q
   .exact old q
   .rw[XG]at q;exact⟨i,J,q.symm⟩
theorem eR(hM:1<=M.length):(IQ M).length=1↔∀i j,i<M.length->j<M.length->mk M i=mk M j:=by
 unfold IQ;constructor
 .intro h i j hi hj;obtain⟨kv,e⟩:=gb.mp h;have h1:=grpA_key (M:=M) hi
  have h2:=grpA_key (M:=M) hj;rw[e]at h1 h2;rw[vn,XG]at h1 h2;rw[h1,h2]
 .intro h;have nd:=qN M M.length
  have h0:=grpA_key (M:=M) (i:=M.length) (j:=0) J;generalize hg:(Xp M M.length)=g at *
  match g,hg with
  |[],_=>simp at h0
  |[kv],_=>rfl
  |a::b::r,hg=>
   exfalso;obtain⟨i,hi,e1⟩:=xQ M M.length a.1 (by rw[hg];simp)
   obtain⟨j,hj,e2⟩:=xQ M M.length b.1 (by rw[hg];simp);have e3:=h i j hi hj
   have:a.1=b.1:=by rw[<-e1,<-e2,e3]
   simp[this]at nd
theorem SameP.one(s:SameP m l):(∀i j,i<m.length->j<m.length->mk m i=mk m j)↔(∀i j,i<l.length->j<l.length->mk l i=mk l j):=by
 obtain⟨hl,h⟩:=s;rw[<-hl];constructor
 .intro q i j hi hj;exact(h i j hi hj).mp (q i j hi hj)
 .intro q i j hi hj;exact(h i j hi hj).mpr (q i j hi hj)
theorem qM:∀{i:Nat}{kv:Int×Ac},kv∈Xp M i->kv.2.length<=i
 |0,kv,h=>by simp[Xp]at h
 |i+1,kv,h=>by
  unfold Xp Sj at h;split at h
  .obtain⟨xR,h0,e⟩:=Yz.mp h;have ih:=qM h0
   by_cases hc:xR.1=mk M i
   .rw[if_pos hc]at e;subst e;rw[Xu,Yu];lia
   .rw[if_neg hc]at e;subst e;lia
  .rcases XE.mp h with h0|h0
   .have ih:=qM h0;omega
   .rw[XG]at h0;subst h0;simp
end My
namespace My
open PySem L2 PyProof.Rows
theorem qL(val:Nat->Int):∀i,(firstMet val i).Nodup
 |0=>List.nodup_nil
 |i+1=>by
  rw[EI];unfold step_dedup;split
  .exact qL val i
  .rename_i h;refine IT (qL val i) λz=>h ?_;rw[LF];exact⟨val i,z,S⟩
theorem IP(val:Nat->Int):∀i (k:Int),k∈firstMet val i↔∃j,j<i/\val j=k
 |0,k=>by
  rw[firstMet_zero];constructor
  .intro h;cases h
  .rintro⟨j,h,_⟩;exact absurd h (Ws j)
 |i+1,k=>by
  rw[EI];have ih:=IP val i k
  unfold step_dedup;split
  .rename_i h;rw[ih];constructor
   .rintro⟨j,hj,e⟩;exact⟨j,J,e⟩
   .rintro⟨j,hj,e⟩;by_cases Dm:j<i
    .exact⟨j,Dm,e⟩
    .have e2:j=i:=J;subst e2;obtain⟨y,hy,ey⟩:=LF.mp h;have ey':y=val j:=by simpa using ey
     rw[ey',e]at hy;exact ih.mp hy
  .rw[XE,ih,XG];constructor
   .rintro(⟨j,hj,e⟩|e)
    .exact⟨j,uD,e⟩
    .exact⟨i,J,e.symm⟩
   .rintro⟨j,hj,e⟩;by_cases Dm:j<i
    .exact .inl ⟨j,Dm,e⟩
    .have e2:j=i:=uD;subst e2;exact .inr e.symm
theorem qK(h:1<=ns.length):(L2.seen ns).length=1↔∀i j,i<ns.length->j<ns.length->mk ns i=mk ns j:=by
 have nd:=qL (λi=>ns.getD i 0) ns.length;have mm:=IP (λi=>ns.getD i 0) ns.length
 unfold L2.seen;generalize firstMet (λi=>ns.getD i 0) ns.length=l at *;constructor
 .intro h1 i j hi hj;obtain⟨x,e⟩:=gb.mp h1;have a:=(mm<|ns.getD i 0).mpr ⟨i,hi,Z⟩
  have b:=(mm<|ns.getD j 0).mpr ⟨j,hj,Z⟩;rw[e,XG]at a b;show ns.getD i 0=ns.getD j 0
  rw[a,b]
 .intro q;have h0:=(mm<|ns.getD 0 0).mpr ⟨0,J,Z⟩
  match l,nd,mm,h0 with
  |[],_,_,h0=>cases h0
  |[x],_,_,_=>rfl
  |x::y::r,nd,mm,_=>
   exfalso;obtain⟨i,hi,e1⟩:=(mm x).mp S
   obtain⟨j,hj,e2⟩:=(mm y).mp S;have e3:ns.getD i 0=ns.getD j 0:=q i j hi hj
   have e:x=y:=by rwa[<-e1,<-e2]
   simp[e]at nd
theorem Pb(z:Int)(l:Ac):Gp (.int z) (IL l)=decide (z∈l):=by
 unfold Gp;rw[List.any_map];rw[Qq,LF,YV];constructor
 .rintro⟨y,hy,e⟩;have e':y=z:=by simpa[SE] using e
  rwa[<-e']
 .intro h;exact⟨z,h,by simp[SE]⟩
theorem ZT(l:Ac):(IL l).all SF=true:=by rw[List.all_map,Ro];intro x _;rfl
theorem Zy:decide (V.int a=V.int b)=decide (a=b):=by
 by_cases h:a=b
 .subst h;simp
 .have h':¬V.int a=V.int b:=λz=>h (V.int.inj z);rw[YR h,YR h']
end My
namespace My
open PySem L2
def IsSet(m:Nat)(ns:Ac):Prop:=∀i z,ns[i]?=some z->0<=z/\z<(m:Int)/\∀y,i≠0->ns[i-1]?=some y->y<z
def XR(ps:Aa)(ns:Ac):List (Nat×Nat):=ns.map λz=>((ps.getD z.toNat (0,0)).1.toNat,(ps.getD z.toNat (0,0)).2.toNat)
theorem eQ{ns:Ac}{z:Int}(h:ns[i]?=some z):XR ps (ns.take (i+1))=XR ps (ns.take i)++[((ps.getD z.toNat (0,0)).1.toNat,(ps.getD z.toNat (0,0)).2.toNat)]:=by unfold XR;rw[YJ,h];simp
theorem Si(h:i<m.length):m[i]?=some (mk m i):=by rw[Xw h];simp[mk,Ya,Xw h]
theorem qJ(n:Int):WT 0 n=(List.range n.toNat).map λ(i:Nat)=>(i:Int):=by unfold WT;rw[GF];refine VW λi _=>?_;lia
def Uy(g:List (Int×Ac))(as:List Addr):List (Key×V):=List.zipWith (λkv a=>((Sum.inl kv.1:Key),V.ref a)) g as
theorem Zu7(h:as.length=g.length):(Uy g as).length=g.length:=by unfold Uy;rw[Nj];grind
theorem eO:∀{g:List (Int×Ac)}{as:List Addr},as.length=g.length->(Uy g as).map (·.2)=as.map V.ref
 |[],[],_=>rfl
 |[],_::_,h=>by simp at h
 |_::_,[],h=>by simp at h
 |kv::g,a::as,h=>by show V.ref a::(Uy g as).map (·.2)=V.ref a::as.map V.ref;rw[eO (Nc h)]
theorem eN:∀{g g':List (Int×Ac)}{as:List Addr},g.map (·.1)=g'.map (·.1)->Uy g as=Uy g' as
 |[],[],_,_=>rfl
 |[],_::_,_,h=>by simp at h
 |_::_,[],_,h=>by simp at h
 |kv::g,xP::g',[],_=>rfl
 |kv::g,xP::g',a::as,h=>by
  rw[UI,UI,List.cons.injEq]at h;show((Sum.inl kv.1:Key),V.ref a)::Uy g as=((Sum.inl xP.1:Key),V.ref a)::Uy g' as
  rw[h.1,eN h.2]
theorem eM:∀{g:List (Int×Ac)}{as:List Addr}{kv:Int×Ac}{a:Addr},as.length=g.length->Uy (g++[kv]) (as++[a])=Uy g as++[((Sum.inl kv.1:Key),V.ref a)]
 |[],[],_,_,_=>rfl
 |[],_::_,_,_,h=>by simp at h
 |_::_,[],_,_,h=>by simp at h
 |x::g,y::as,kv,a,h=>by show _::Uy (g++[kv]) (as++[a])=_::(Uy g as++_);rw[eM (Nc h)]
theorem qI:∀{g:List (Int×Ac)}{as:List Addr}{k:Int},as.length=g.length->
  (Wq (Uy g as) (Sum.inl k:Key)=none/\k∉g.map (·.1))\/∃(j:Nat)(kv:Int×Ac)(a:Addr),g[j]?=some kv/\as[j]?=some a/\kv.1=k/\Wq (Uy g as) (Sum.inl k:Key)=some (.ref a)
 |[],[],k,_=>.inl ⟨Z,S⟩
 |[],_::_,_,h=>by simp at h
 |_::_,[],_,h=>by simp at h
 |kv::g,a::as,k,h=>by
  by_cases e:kv.1=k
  .refine .inr ⟨0,kv,a,Z,Z,e,?_⟩;show Wq (((Sum.inl kv.1:Key),V.ref a)::Uy g as) _=_
   rw[su (by rw[e])]
  .have e':¬((Sum.inl kv.1:Key)=Sum.inl k):=λz=>e (Sum.inl.inj z);have ev:Wq (Uy (kv::g)<|a::as) (Sum.inl k:Key)=Wq (Uy g as) (Sum.inl k:Key):=sr (p:=((Sum.inl kv.1:Key),V.ref a)) e'
   rcases qI (g:=g) (as:=as) (k:=k) (Nc h) with ⟨h1,h2⟩|⟨j,xP,a',h1,h2,h3,h4⟩
   .refine .inl ⟨by rw[ev];exact h1,?_⟩;rw[UI,Yg];rintro(z|z)
    .exact e z.symm
    .exact h2 z
   .exact .inr ⟨j+1,xP,a',by simpa using h1,by simpa using h2,h3,by rwa[ev]⟩
structure GrpAt(H0 H:Hp)(g:List (Int×Ac))(as:List Addr):Prop where
 len:as.length=g.length
 nd:as.Nodup
 at_:∀(i:Nat)(kv:Int×Ac)(a:Addr),g[i]?=some kv->as[i]?=some a->H a=some (.lst<|IL kv.2)
 new:∀a∈as,H0 a=none
theorem GrpAt.same(s:Same H H')(h:GrpAt H0 H g as):GrpAt H0 H' g as:=⟨h.len,h.nd,λi kv a e1 e2=>s _ _<|h.at_ i kv a e1 e2,h.new⟩
theorem GrpAt.mem(h:GrpAt H0 H g as){a:Addr}(ha:a∈as):∃l,H a=some (.lst l):=by
 obtain⟨i,hi,e⟩:=Ri ha;have hg:i<g.length:=by rwa[<-h.len]
 exact⟨_,h.at_ i g[i] a (Xw hg)<|by rw[Xw hi,e]⟩
theorem IsSet.all(h:IsSet m ns):∀z∈ns,0<=z/\z<(m:Int):=λz hz=>by obtain⟨i,hi,e⟩:=Ri hz;obtain⟨a,b,_⟩:=h i z (by rw[Xw hi,e]);exact⟨a,b⟩
theorem IsSet.nil(m:Nat):IsSet m []:=λi z e=>by simp at e
theorem IsSet.up(h:IsSet m ns):IsSet (m+1) ns:=λi z e=>by obtain⟨a,b,c⟩:=h i z e;exact⟨a,uD,c⟩
theorem IsSet.snoc(h:IsSet m ns):IsSet (m+1) (ns++[(m:Int)]):=λi z e=>by
 by_cases hi:i<ns.length
 .rw[Ys hi]at e;obtain⟨a,b,c⟩:=h i z e;refine⟨a,J,λy h0 ey=>?_⟩;rw[Ys uD]at ey;exact c y h0 ey
 .have hl:i=ns.length:=by
   have:=(Xr.mp e).1
   rw[Xu,Yu]at this;lia
  subst hl;rw[Yo (XJ _),Ve]at e;have e:(m:Int)=z:=Ye e
  subst e;refine⟨J,J,λy h0 ey=>?_⟩;rw[Ys uD]at ey;exact(h _ y ey).2.1
theorem IsSet.len:∀{ns:Ac},IsSet m ns->ns.length<=m:=λ{ns} h=>by
 have key:∀(i:Nat)(z:Int),ns[i]?=some z->(i:Int)<=z:=by
  intro i
  induction i with
  |zero=>intro z e;exact(h 0 z e).1
  |succ i ih=>
   intro z e;have hi:i<ns.length:=by have:=(Xr.mp e).1;lia
   have e2:ns[i]?=some ns[i]:=Xw hi
   have:=ih _ e2
   have:=(h (i+1) z e).2.2 ns[i] J (by rwa[vo])
   lia
 by_cases h0:ns.length=0
 .lia
 .have e:ns[ns.length-1]?=some (ns[ns.length-1]'(by lia)):=Xw _;have a:=key _ _ e
  have b:=(h _ _ e).2.1;lia
end My
namespace L2
open PySem PySem.Spec PyProof.Rows
section
variable{X:Cx}
inductive rIndex(K:Ad)(x:V)(vs:List V)(H:Hp)(Q:VK):Prop
 |mk (p:Addr) (ns:Ac) (z:Int) (j:Nat) (_:x=.ref p) (_:vs=[.int z]) (_:SqL K H p (ns.map V.int)) (_:ns[j]?=some z) (_:(∀i,i<j->ns[i]?≠some z)) (_:Q (.int j) H)
theorem ZF8(K:Ad)(h:X.K=K:=by rfl):NI X "list.index" (rIndex K):=by
 subst h;intro pins s σ H x vs v us Q I rx rv h;obtain⟨p,ns,z,j,rfl,rfl,hq,hj,Vi,q⟩:=h;cases rx;obtain⟨u,rfl,t,rfl⟩:=rv.one;obtain⟨XT,r,⟨o,n,e,hc,hd,IM⟩,hz⟩:=I.list hq;have hl:XT.length=ns.length:=by rw[<-r.length,Yb]
 have MG:j<ns.length:=(Xr.mp hj).1;have hsz:sizeLine=16777216:=TF
 rw[Yb]at hz;obtain⟨oc,od,qH,Tz⟩:=o;have hc:oc=.type "list":=hc
 have IM:qH=.seq XT.toArray n:=IM;subst hc IM;have at_:∀(i:Nat)(hi:i<XT.length),∃tk,XT[i]=.int (ns[i]'(by lia)) tk:=λi hi=>by
  obtain⟨x,ex,rx⟩:=r.at hi;rw[Yl,Xw uD]at ex;have ex:V.int (ns[i]'(by omega))=x:=Ye ex
  subst ex;exact rx
 refine NM F.slot_list_index ⟨_,e,Z⟩ F.entry_list_index (F.args_list_index_2 _ _) (SeqAt.list_indexAt p XT.toArray n od Tz (.int z t) (λy=>Tx (.int z) y) j (by rw[Yc];lia) J ?_ ?_) ⟨e,λy hy=>?_,?_⟩
 .obtain⟨tk,e1⟩:=at_ j uD;have e2:ns[j]'(by lia)=z:=by rw[Xw MG]at hj;exact Ye hj
  have e3:XT.toArray[j]'(by rw[Yc];lia)=.int z tk:=by rw[<-e2];simpa using e1
  rw[e3];simp[Tx,SE]
 .intro m hm hmj;have Lb:m<XT.length:=by rwa[Yc]at hm
  obtain⟨tk,e1⟩:=at_ m Lb;have e3:XT.toArray[m]'hm=.int (ns[m]'(by omega)) tk:=by simpa using e1
  rw[e3];have XH:=Vi m hmj
  rw[Xw uD]at XH;have IK:ns[m]'(by omega)≠z:=λw=>XH (Xy some w)
  simp[Tx,SE,IK]
 .refine DN (x:=.int z) ⟨t,Z⟩ Z r ?_ y (by simpa using hy);rw[List.all_map,Ro];intro _ _;rfl
 .exact⟨.int j,H,I.tok _,⟨_,Z⟩,q⟩
theorem ZV5{XT:Array Value}{bs:List Bool}(h:∀(i:Nat)(v:Value),XT[i]?=some v->∃b,bs[i]?=some b/\v=.bool b):TruthOf prog w A (λi v=>XT[i]?=some v) (λi=>bs.getD i false):=by
 intro i v s Q E hP hQ;obtain⟨b,eb,rfl⟩:=h i v hP;have hQ:Q (bs.getD i false) s:=hQ
 rw[Ya,eb]at hQ;exact PK hQ
theorem qG(bs:List Bool):(List.range bs.length).any (λi=>bs.getD i false)=bs.any id:=by
 rw[Qq,LF,LF];constructor
 .rintro⟨i,hi,e⟩;have hi:=YK.mp hi
  rw[Ya,Xw hi]at e;exact⟨_,Ni hi,e⟩
 .rintro⟨b,hb,e⟩;obtain⟨i,hi,ei⟩:=Ri hb;refine⟨i,YK.mpr hi,?_⟩;rwa[Ya,Xw hi,ei]
theorem qF{bs:List Bool}(r:Vals (bs.map V.bl) XT):∀(i:Nat)(v:Value),XT.toArray[i]?=some v->∃b,bs[i]?=some b/\v=.bool b:=λi v e=>by
 have e:XT[i]?=some v:=by simpa using e
 have hi:i<XT.length:=(Xr.mp e).1;obtain⟨x,ex,rx⟩:=r.at hi;rw[Yl]at ex;cases eb:bs[i]? with
 |none=>rw[eb]at ex;cases ex
 |some b=>
  rw[eb]at ex;have ex:V.bl b=x:=Ye ex
  subst ex;rw[Xw hi]at e;have e:XT[i]=v:=Ye e
  rw[e]at rx;exact⟨b,Z,rx⟩
theorem eK(K:Ad)(hc:X.calm=true)(h:X.K=K:=by rfl):Vx X (.builtin "any") (λxs H Q=>∃(p:Addr)(bs:List Bool),xs=[.ref p]/\SqL K H p (bs.map V.bl)/\Q (.bl<|bs.any id) H):=by
 subst h;intro pins s σ H xs us Q I r h;obtain⟨p,bs,rfl,hq,q⟩:=h;obtain⟨u,rfl,ru⟩:=WL r;obtain rfl:u=Value.ref p:=ru;obtain⟨XT,rv,pl,hz⟩:=I.list hq;have hl:XT.toArray.size=bs.length:=by rw[Yc,<-rv.length,Yb]
 have XH:p≠s.heap.objs.size:=YB (by obtain⟨_,_,e,_⟩:=pl;exact Yq e);refine call_any_walk (yS pl.isList ⟨s.heap.objs.size,_,_,_,_,_,_,Z,Walks.list (A:=X.A.in1) (I.ok.hd hc) s.heap.objs.size p XH XT.toArray,⟨⟨_,Yk _ Z,Z,Z⟩,pl.isList.push _⟩,ZV5<|qF rv,λh' tk hk=>?_⟩);rw[hl,qG];refine⟨.bl<|bs.any id,H,I.kept λb o e=>hk b o ?_<|Xc _ e,Z,q⟩;intro z;rw[XG.mp z]at e;exact absurd (Yq e) (Sw _)
end
end L2
namespace My
open PySem L2
section
variable{K:Ad}{H:Hp}{α:Type}[DecidableEq α]
def Bears(R:V->α->Prop)(xs:List V)(l:List α):Prop:=xs.length=l.length/\∀(i:Nat)(a:α),l[i]?=some a->∃x,xs[i]?=some x/\R x a
theorem Bears.at{R:V->α->Prop}(h:Bears R xs l){i:Nat}{x:V}(e:xs[i]?=some x):∃a,l[i]?=some a/\R x a:=by
 have hi:i<xs.length:=(Xr.mp e).1;have hl:i<l.length:=by rwa[<-h.1]
 obtain⟨x',e1,q⟩:=h.2 i l[i] (Xw hl);rw[e]at e1;cases e1;exact⟨_,Xw hl,q⟩
theorem La{l m:List α}(h:l.length=m.length):(List.range l.length).all (λi=>decide (l[i]?=m[i]?))=decide (l=m):=by
 rw[Qq,Ro,YV];constructor
 .intro q;refine GO λi=>?_;by_cases hi:i<l.length
  .exact Yr (q i<|YK.mpr hi)
  .rw[Vs J,Vs J]
 .rintro rfl i _;simp
theorem qE{R:V->α->Prop}(hp:SqL K H p xs)(hq:SqL K H q ys)(h1:Bears R xs l)(h2:Bears R ys m)(hR:∀x y a b,R x a->R y b->EqD K H n x y (decide (a=b))):EqD K H (n+1) (.ref p) (.ref q) (decide (l=m)):=by
 by_cases hl:xs.length=ys.length
 .have e:=La (l:=l) (m:=m) (by rw[<-h1.1,<-h2.1,hl]);rw[<-e,<-h1.1];refine EqD.lsts hp hq hl λi x y ex ey=>?_;obtain⟨a,ea,ra⟩:=h1.at ex;obtain⟨b,eb,rb⟩:=h2.at ey;rw[ea,eb,show decide (some a=some b)=decide (a=b) by simp];exact hR x y a b ra rb
 .have e:decide (l=m)=false:=YR λz=>hl (by rw[h1.1,h2.1,z]);rw[e];exact EqD.lens hp hq hl
theorem qD{R:V->α->Prop}(hp:SqT K H p xs)(hq:SqT K H q ys)(h1:Bears R xs l)(h2:Bears R ys m)(hR:∀x y a b,R x a->R y b->EqD K H n x y (decide (a=b))):EqD K H (n+1) (.ref p) (.ref q) (decide (l=m)):=by
 have key:=EqD.tups (e:=λi=>decide<|l[i]?=m[i]?) hp hq λi x y ex ey=>by obtain⟨a,ea,ra⟩:=h1.at ex;obtain⟨b,eb,rb⟩:=h2.at ey;rw[ea,eb,show decide (some a=some b)=decide (a=b) by simp];exact hR x y a b ra rb
 by_cases hl:xs.length=ys.length
 .have e:=La (l:=l) (m:=m) (by rw[<-h1.1,<-h2.1,hl]);rwa[<-hl,Nat.min_self,h1.1,e,show(l.length == l.length)=true by simp,Bool.and_true]at key
 .have e:decide (l=m)=false:=YR λz=>hl (by rw[h1.1,h2.1,z]);rw[show(xs.length == ys.length)=false by simpa using hl,Bool.and_false]at key;rwa[e]
theorem xO(ns:Ac):Bears (λx (z:Int)=>x=.int z) (IL ns) ns:=⟨XD ns,λi z e=>⟨_,UX e,Z⟩⟩
theorem eJ{a b:Int}(hx:x=.int a)(hy:y=.int b):EqD K H n x y (decide (a=b)):=by
 subst hx hy;have e:decide (a=b)=SE (.int a) (.int b):=by show decide (a=b)=(a == b);rw[Bool.beq_eq_decide_eq]
 rw[e];exact EqD.flat Z rfl
theorem eE(hp:SqL K H p (IL ns))(hq:SqL K H q (IL ms)):EqD K H 1 (.ref p) (.ref q) (decide (ns=ms)):=
 qE hp hq (xO ns) (xO ms) λ_ _ _ _=>eJ
theorem qC(hp:SqT K H p (IL ns))(hq:SqT K H q (IL ms)):EqD K H 1 (.ref p) (.ref q) (decide (ns=ms)):=
 qD hp hq (xO ns) (xO ms) λ_ _ _ _=>eJ
def QQ(H:Hp)(v:V)(l:Ac):Prop:=∃a,v=.ref a/\H a=some (.lst<|IL l)
end
end My
namespace My
def Wn(M:Ac)(p:Nat):Bool:=(List.range p).all λi=>decide (mk M i≠mk M p)
def Ux(M:Ac)(k:Int)(i:Nat):Ac:=((List.range i).filter λj=>decide<|mk M j=k).map λ(j:Nat)=>(j:Int)
def Vp(M:Ac)(i:Nat):List Nat:=(List.range i).filter (Wn M)
theorem Xz:Wn M p=true↔∀i,i<p->mk M i≠mk M p:=by
 unfold Wn;rw[Ro];constructor
 .intro h i hi;exact Yr (h i<|YK.mpr hi)
 .intro h i hi;exact Yp (h i<|YK.mp hi)
theorem qB(M:Ac)(k:Int)(i:Nat):Ux M k (i+1)=Ux M k i++(if mk M i=k then [(i:Int)] else []):=by
 unfold Ux;rw[PH,Qs,YG];congr 1;by_cases h:mk M i=k
 .rw[if_pos h,YT,if_pos (by simpa using h)];rfl
 .rw[if_neg h,YT,if_neg (by simpa using h)];rfl
theorem eD(M:Ac)(i:Nat):Vp M (i+1)=Vp M i++(if Wn M i=true then [i] else []):=by
 unfold Vp;rw[PH,Qs];congr 1;by_cases h:Wn M i=true
 .rw[if_pos h,YT,if_pos h];rfl
 .rw[if_neg h,YT,if_neg h];rfl
theorem eB(M:Ac):∀i,Xp M i=(Vp M i).map λp=>(mk M p,Ux M (mk M p) i)
 |0=>rfl
 |i+1=>by
  have ih:=eB M i;show Sj (Xp M i) (i:Int) (mk M i)=_
  have hk:(mk M i∈(Xp M i).map (·.1))↔Wn M i≠true:=by
   constructor
   .intro h q;obtain⟨j,hj,e⟩:=xQ M i _ h;exact Xz.mp q j hj e
   .intro h;by_cases q:∃j,j<i/\mk M j=mk M i
    .obtain⟨j,hj,e⟩:=q;rw[<-e];exact grpA_key hj
    .exact absurd (Xz.mpr λj hj e=>q ⟨j,hj,e⟩) h
  unfold Sj;by_cases h:mk M i∈(Xp M i).map (·.1)
  .have hf:=hk.mp h;rw[if_pos h,eD,if_neg hf,YI,ih,LB];refine VW λp _=>?_;show(if mk M p=mk M i then (mk M p,Ux M (mk M p) i++[(i:Int)]) else (mk M p,Ux M (mk M p) i))=(mk M p,Ux M (mk M p)<|i+1)
   rw[qB];by_cases e:mk M p=mk M i
   .rw[if_pos e,if_pos e.symm]
   .rw[if_neg e,if_neg λz=>e z.symm,YI]
  .have hf:Wn M i=true:=by
    cases q:Wn M i with
    |true=>rfl
    |false=>exact absurd (hk.mpr<|by rw[q];exact Yy) h
   rw[if_neg h,eD,if_pos hf,YG,ih];congr 1
   .refine VW λp hp=>?_;have Pa:p<i:=YK.mp (Yh.mp hp).1
    rw[qB,if_neg λz=>Xz.mp hf p Pa z.symm,YI]
   .show [(mk M i,[(i:Int)])]=[(mk M i,Ux M (mk M i)<|i+1)];rw[qB,if_pos Z];have e0:Ux M (mk M i) i=[]:=by unfold Ux;rw[f7.mpr λj hj=>by simpa using Xz.mp hf j (YK.mp hj)];rfl
    rw[e0];rfl
end My
namespace My
open PySem L2
theorem Bears.snoc{α:Type}[DecidableEq α]{R:V->α->Prop}{xs:List V}{l:List α}{x:V}{a:α}(h:Bears R xs l)(hx:R x a):Bears R (xs++[x]) (l++[a]):=by
 refine⟨by rw[Xu,Xu,h.1];rfl,λi b e=>?_⟩;by_cases hi:i<l.length
 .rw[Ys hi]at e;rw[Ys (by rwa[h.1])];exact h.2 i b e
 .have hl:i=l.length:=by
   have:=(Xr.mp e).1
   rw[Xu,Yu]at this;lia
  subst hl;rw[Yo (XJ _),Ve]at e;rw[Yo (by rw[h.1];exact XJ _),h.1,Ve];have e':a=b:=Ye e
  subst e';exact⟨x,Z,hx⟩
theorem Bears.imp{α:Type}[DecidableEq α]{R R':V->α->Prop}{xs:List V}{l:List α}(h:Bears R xs l)(f:∀x a,R x a->R' x a):Bears R' xs l:=⟨h.1,λi a e=>by obtain⟨x,e1,r⟩:=h.2 i a e;exact⟨x,e1,f x a r⟩⟩
end My
namespace L2
open PySem PySem.Spec PyProof.Rows
theorem ZM8{a:Int}(h1:-(10^70)<a)(h2:a<10^70):a.natAbs.log2<1920:=by
 have h:a.natAbs<10^70:=uD;by_cases h0:a.natAbs=0
 .rw[h0];decide
 .exact(Nat.log2_lt h0).mpr (Nat.lt_trans h uB)
end L2
namespace My
open PySem L2
theorem Dl{p1 p2:Addr}(h1:H p1=some (.lst (IL l1)))(h2:H p2=some (.lst (IL l2)))(hl:l1.length+l2.length<=1000000)(k:∀r,H r=none->Q (.ref r) (upd H r (.lst (IL (l1++l2))))):rCat (.ref p1) (.ref p2) H Q:=by
 refine⟨p1,p2,_,_,Z,Z,h1,h2,?_,λr hr=>?_⟩
 .rw[XD,XD];exact TY hl
 .have:=k r hr
  rwa[Dx]at this
end My
namespace L2
open PySem PySem.Spec PyProof.Rows
theorem OZ:∀{us:Ag}{ns:Ac},IntsAre us ns->Vals (ns.map V.int) us
 |[],[],_=>.nil
 |_::_,[],h=>by cases h
 |[],_::_,h=>by cases h
 |u::us,n::ns,h=>by
  cases h with
  |cons _ _ t=>exact .cons ⟨_,Z⟩ (OZ t)
theorem Vals.rev{xs:List V}{us:Ag}(h:Vals xs us):Vals xs.reverse us.reverse:=by
 induction h with
 |nil=>exact .nil
 |cons r t ih=>
  rw[vk,vk];exact ih.append (.cons r .nil)
section
variable{X:Cx}
theorem xN(K:Ad)(hk:X.K=K:=by rfl):Vx X (.builtin "sorted") (λxs H Q=>∃p ns,xs=[.ref p]/\SqL K H p (ns.map V.int)/\ns.length<64/\
  ∀ms:Ac,ms.Perm ns->ms.Pairwise (·<=·)->∀l,H l=none->Q (.ref l) (upd H l<|.lst<|ms.map V.int)):=by
 subst hk;intro pins s σ H xs us Q I r h;obtain⟨p,ns,rfl,hq,hn,q⟩:=h;obtain⟨u,rfl,ru⟩:=WL r;obtain rfl:u=Value.ref p:=ru;obtain⟨XT,rv,pl,hz⟩:=I.list hq;have hi:=ZA rv
 have hl:XT.length=ns.length:=by rw[<-rv.length,Yb]
 refine sorted_ints pl.isList hi J λout ms h1 h2 h3=>?_;obtain⟨e,he⟩:=sortedAll_at s.heap XT out;have Nw:ms.length=ns.length:=h2.length_eq
 refine⟨.ref<|s.heap.objs.size+1,_,I.laid (t':=s.toks) (o:=.lst<|ms.map V.int) (λb o g=>sortedAll_old g) (TH _) ⟨?_,out.toList,e,OZ h1,?_⟩,Z,q ms h2 h3 _<|I.hok.fresh<|TH _⟩
 .rw[Yb,Nw]
  have:sizeLine=16777216:=TF
  lia
 .exact he
theorem qA:typeLookup (.type "list_reverseiterator") "__length_hint__"=pure (some (.builtin "list_reverseiterator.__length_hint__")):=by rw[NN,NQ];kernel_rfl
theorem Yz8:typeLookup (.type "list_reverseiterator") "__len__"=pure none:=by rw[NN,NQ];kernel_rfl
theorem Dk{E:Ae}{s:Shared}{r:Addr}{Q:Bool->Shared->Prop}(hT:s.TypeIs (.ref r) "list_reverseiterator")(h:Q false s):wpAny (model prog w) A (Builtin.List.listLengthHint (.ref r)) Q E s:=by
 unfold Builtin.List.listLengthHint;refine XU (GG hT Yz8 ?_);show wpAny _ A (specialOf (Value.ref r) (Str.ofString "__length_hint__") >>= _) _ _ _
 refine XU (GG hT qA ?_);generalize Dj:("list_reverseiterator.__length_hint__":String)=qz
 wp_delta
 rw[show splitId qz=some ("list_reverseiterator","__length_hint__") from by subst Dj;decide +kernel];subst Dj;refine XU (GI (T:="list_reverseiterator") (b:=true) hT (by rw[Ud];kernel_rfl) ?_);exact Ym h
section
variable{prog:Program}{w:World}{A:Around}{E:Ae}{s:Shared}{it a:Addr}{items:Array Value}
theorem Zd7{R:Result->Shared->Prop}(hh:A.handled=none)(hi:s.heap.IsRevIter it a ((items.size:Int)-1))(hl:s.heap.IsList a items)(XH:a≠it){uz:Addr}(h1:uz≠it)(h2:uz≠a){c0:Nat}
  (hS:s.heap.get? uz=some {cls:=.type "list",data:=.seq #[] c0})(hz:items.size<=sizeLine)
  (k:∀h' tk acc c,(∀b o,b≠uz->b≠it->s.heap.get? b=some o->h'.get? b=some o)->h'.get? uz=some {cls:=.type "list",dict:=none,data:=.seq acc c,slots:=#[]}->ItemsOf (λi v=>items[items.size-1-i]?=some v) acc items.size->R (.ok<|.ret res) {s with heap:=h',toks:=tk}):
  wpAny (model prog w) A.in1 (Builtin.List.listExtendWith (.ref uz) (.ref it) res)
   (λfin s'=>match fin with | .done f=>R (.ok f) s' | .again c'=>c'.quiet=true/\codeAny (model prog w) A c' R s') (λe s'=>R (.error e) s') s:=by
 have W:=Walks.listRev (prog:=prog) (w:=w) (A:=A.in1) hh it a XH items;have Sh:uz∉[it,a]:=by simp only[Yg,JF,or_false,not_or];exact⟨h1,h2⟩
 have Gf:(0<=items.size/\s.heap.IsRevIter it a ((items.size:Int)-1-((0:Nat):Int))/\s.heap.IsList a items):=⟨Yj _,by rw[show((items.size:Int)-1-((0:Nat):Int))=(items.size:Int)-1 by lia];exact hi,hl⟩;have hT:s.TypeIs (.ref it) "list_reverseiterator":=hi.typeIs
 have key:codeAny (model prog w) A (.builtin "list.extend.loop" ⟨[.ref uz,.ref it,res],[]⟩) R s:=by
  refine codeAny_extend_loopS W.toS hz uz Sh res items.size 0 _ #[] c0 Z (Yj _) Gf hS (ItemsOf.nil _) λs' acc c hm SA VS=>?_;rw[Moved.eq_with hm];refine k s'.heap s'.toks acc c (λb o hb hbi e=>hm.heap b o (λhmem=>?_) e) SA VS;rcases Yg.mp hmem with e'|hmem
  .exact hb e'
  .exact hbi (XG.mp hmem)
 unfold Builtin.List.listExtendWith;refine XU (EL (T:="list_reverseiterator") hT ?_);have e1:Builtin.List.listSameRef (.ref uz) (.ref it)=false:=by simp[Builtin.List.listSameRef,h1]
 rw[if_neg (by rw[e1];decide)];refine XU (vm hi ?_);refine XU (RN<|Dk hT ?_);rw[if_neg uB];exact Ym ⟨Nd gC _,key⟩
theorem Di{Q:Ae}(hh:A.handled=none)(hi:s.heap.IsRevIter it a ((items.size:Int)-1))(hl:s.heap.IsList a items)(XH:a≠it)(hz:items.size<=sizeLine)
  (k:∀h' tk acc c,(∀b o,b≠it->s.heap.get? b=some o->h'.get? b=some o)->h'.get? s.heap.objs.size=some {cls:=.type "list",dict:=none,data:=.seq acc c,slots:=#[]}->ItemsOf (λi v=>items[items.size-1-i]?=some v) acc items.size->
   Q (.ref s.heap.objs.size) {s with heap:=h',toks:=tk}):wpAny (model prog w) A (call (.type "list") [.ref it]) Q E s:=by
 obtain⟨oi,hoi,_⟩:=id hi;obtain⟨ol,Qk,_⟩:=id hl;have n1:s.heap.objs.size≠it:=Rn (Yq hoi)
 have n2:s.heap.objs.size≠a:=Rn (Yq Qk);refine callType_codes (Q₁:=λob s₁=>ob=.ref s.heap.objs.size/\s₁={s with heap:=s.heap.push {cls:=.type "list",data:=.seq #[]} }) PySem.F.called_list (PySem.F.typeCall_list_1 _) PySem.F.entry_list_init (code_list_new _ ⟨Z,Z⟩) λob s₁ z=>?_;obtain⟨rfl,rfl⟩:=z;have Ge:(s.heap.push {cls:=.type "list",data:=.seq #[]}).get? s.heap.objs.size=some {cls:=.type "list",data:=.seq #[]}:=Yk _ rfl
 refine⟨⟨_,Ge,Z⟩,PySem.F.args_list_init_2 _ _,?_⟩;show wpAny _ A.in1.in1 (do let old <-Builtin.List.listItems (.ref s.heap.objs.size);Builtin.List.listUpdate (.ref s.heap.objs.size) λ_=>#[];letGo old.toList.reverse;Builtin.List.listExtendWith (.ref s.heap.objs.size) (.ref it) .none) _ _ _
 refine XU ?_;unfold Builtin.List.listItems;refine XU (JR Ge Z<|Ym ?_);refine XU (yM (a:=s.heap.objs.size) Ge Z ?_);have Dh:=VF (Obj.mapSeq λ_=>(#[]:Array Value)) Ge rfl
 have IJ:∀b o,b≠s.heap.objs.size->s.heap.get? b=some o->((s.heap.push {cls:=.type "list",data:=.seq #[]}).update s.heap.objs.size (Obj.mapSeq λ_=>(#[]:Array Value))).get? b=some o:=
  λb o hb e=>(YU _ _<|XI hb).trans (Xc _ e)
 refine XU (GA ?_);refine Zd7 (A:=A.in1) (items:=items) hh (hi.at λo e=>IJ it o (XI n1) e) (hl.at λo e=>IJ a o (XI n2) e) XH n1 n2 Dh hz λh' tk acc c hk SA VS=>?_;exact⟨Z,k h' tk acc c (λb o hb e=>hk b o (YB<|Yq e) hb<|IJ b o (YB<|Yq e) e) SA VS⟩
end
end
section
variable{X:Cx}{p p2 pos UT:Pos}{e:Expr}{t:TA}
def qy(K:Ad)(t:TA):TE:=λσ H Q=>t σ H λvs H1=>∃a ys,vs=[.ref a]/\SqL K H1 a ys/\∀l,H1 l=none->Q (.ref l) (upd H1 l<|.lst ys.reverse)
theorem Dg(K:Ad)(hc:X.calm=true)(g1:Gl X "list")(m1:X.mg "list"=none)(g2:Gl X "reversed")(m2:X.mg "reversed"=none)(ha:PA X [e] t)(hk:X.K=K:=by rfl)
  (he:starEach [e] X.env=[(false,eval e X.env)]:=by rfl)
  (Ph:starEach [.Call (.Name "reversed" p2) [e] [] UT] X.env=[(false,eval (.Call (.Name "reversed" p2) [e] [] UT) X.env)]:=by rfl):
  PE X (.Call (.Name "list" p) [.Call (.Name "reversed" p2) [e] [] UT] [] pos) (qy K t):=by
 subst hk;intro pins s σ H Q I h;refine NP (Ra I g1 m1 Boot.«list» ?_);refine Ug ?_ (by rw[Ph];rfl) rfl;rw[Ph];show wpAny _ _ (spliced<|(false,eval (.Call (.Name "reversed" p2) [e] [] UT) X.env)::backTo pos []) _ _ s
 refine uY ?_;refine NP (Ra I g2 m2 Boot.«reversed» ?_);refine Ug (thn (ha UT pins s σ H _ I h) λus s1 zz=>?_) (by rw[he];rfl) rfl;obtain⟨vs,H1,I1,r1,q1⟩:=zz;obtain⟨a,ys,rfl,hq,q⟩:=q1;obtain⟨u,rfl,ru⟩:=WL r1;obtain rfl:u=Value.ref a:=ru;obtain⟨XT,rv,pl,hz⟩:=I1.list hq;refine call_reversed_list pl.isList ?_;refine uR ?_;have el:XT.toArray.size=ys.length:=by rw[Yc,<-rv.length]
 have hit:(s1.heap.push<|revObj a<|(XT.toArray.size:Int)-1).IsRevIter s1.heap.objs.size a ((XT.toArray.size:Int)-1):=⟨_,Yk _ Z,Z,Z⟩;have XH:a≠s1.heap.objs.size:=YB (by obtain⟨_,_,e,_⟩:=pl;exact Yq e)
 refine Di (I.ok.hd hc) hit (pl.isList.push _) XH (by rwa[el]) λh' tk acc c hk hS Gd=>?_;have KZ:XT.length=ys.length:=rv.length.symm
 have ea:acc.toList=XT.reverse:=by
  refine GO λi=>?_;have h1:=Gd.1
  by_cases hi:i<XT.length
  .obtain⟨v,ev⟩:∃v,acc[i]?=some v:=⟨_,YH<|by rwa[h1,Yc]⟩;have h2:=Gd.2 i v ev
   rw[JZ hi];have e3:acc.toList[i]?=some v:=by simpa using ev
   rw[e3];have e4:XT[XT.length-1-i]?=some v:=by simpa using h2
   rw[e4]
  .rw[Vs (by rw[YE,h1,Yc];grind),Vs (by rw[YS];omega)]
 rw[size_push']at hS ⊢;refine⟨.ref<|s1.heap.objs.size+1,_,I1.laid (o:=.lst ys.reverse) (h':=h') (t':=tk) (λb o e=>hk b o (YB<|Yq e)<|Xc _ e) (TH _) ⟨?_,acc.toList,c,?_,?_⟩,Z,q _<|I1.hok.fresh<|TH _⟩
 .rw[YS];exact hz
 .rw[ea];exact rv.rev
 .rw[hS]
end
end L2
namespace My
open PySem L2
theorem XX:IsSet m ns↔(∀z∈ns,0<=z/\z<(m:Int))/\ns.Pairwise (·<·):=by
 constructor
 .intro h;refine⟨h.all,?_⟩;rw[Ka];intro i j hi hj Um
  induction j with
  |zero=>exact absurd Um (Ws i)
  |succ j ih=>
   have qx:j<ns.length:=uE;have key:=(h (j+1) ns[j+1]<|Xw hj).2.2 ns[j] J (by rw[vo];exact Xw qx)
   by_cases e:i=j
   .subst e;exact key
   .have:=ih qx J
    lia
 .rintro⟨ha,hp⟩ i z hz;obtain⟨hi,ei⟩:=Xr.mp hz;have hm:=ha z (Xi hz)
  refine⟨hm.1,hm.2,λy h0 hy=>?_⟩;obtain⟨QO,ei'⟩:=Xr.mp hy
  have:=Ka.mp hp (i-1) i QO hi J
  rwa[ei,ei']at this
theorem MF{ns:Ac}(h:ns.Pairwise (·<·)):ns.Nodup:=h.imp λVw e=>J
theorem IsSet.nodup(h:IsSet m ns):ns.Nodup:=MF (XX.mp h).2
end My
namespace My
theorem ME{α:Type}{P:List α->Prop}(h0:P [])(h1:∀l x,P l->P (l++[x])):∀l,P l:=by
 intro l;rw[<-List.reverse_reverse l]
 induction l.reverse with
 |nil=>exact h0
 |cons x r ih=>
  rw[vk];exact h1 _ _ ih
inductive Conn(es:List (Nat×Nat)):Nat->Nat->Prop
 |refl (i:Nat):Conn es i i
 |edge {a b:Nat} (h:(a,b)∈es):Conn es a b
 |symm {i j:Nat}:Conn es i j->Conn es j i
 |trans {i j k:Nat}:Conn es i j->Conn es j k->Conn es i k
theorem Conn.mono(h:∀e∈es,e∈fs)(c:Conn es i j):Conn fs i j:=by
 induction c with
 |refl i=>exact .refl i
 |edge q=>exact .edge (h _ q)
 |symm _ ih=>exact .symm ih
 |trans _ _ i1 i2=>exact .trans i1 i2
theorem xM{n i:Nat}(h:i<n):mk ((List.range n).map λ(i:Nat)=>(i:Int)) i=(i:Int):=by rw[mk_map' h]
where
 mk_map' {n i:Nat} (h:i<n):mk ((List.range n).map λ(i:Nat)=>(i:Int)) i=(i:Int):=by simp[mk,Ya,Yl,Rh h]
def InN(n:Nat)(es:List (Nat×Nat)):Prop:=∀e∈es,e.1<n/\e.2<n
theorem InN.snoc{e:Nat×Nat}(h:InN n (es++[e])):InN n es/\e.1<n/\e.2<n:=⟨λx hx=>h x<|Yd _ hx,h e S⟩
theorem Df:∀es:List (Nat×Nat),InN n es->∀e∈es,mk (Xb n es) e.1=mk (Xb n es) e.2:=by
 refine ME (λ_ e h=>by cases h) λes x ih hn e he=>?_;obtain⟨h1,h2,h3⟩:=hn.snoc;have hl:=ZB n es
 have hx:=hn e he;rw[Nx];refine(Dn J J).mpr ?_;rcases XE.mp he with q|q
 .exact .inl (ih h1 e q)
 .rw[XG.mp q];exact .inr ⟨.inl Z,.inr Z⟩
theorem De:∀es:List (Nat×Nat),InN n es->∀i j,i<n->j<n->mk (Xb n es) i=mk (Xb n es) j->Conn es i j:=by
 refine ME (λ_ i j hi hj h=>?_) λes x ih hn i j hi hj h=>?_
 .have h:mk ((List.range n).map λ(i:Nat)=>(i:Int)) i=mk ((List.range n).map λ(i:Nat)=>(i:Int)) j:=h;rw[xM hi,xM hj]at h
  have:i=j:=J
  subst this;exact .refl i
 .obtain⟨h1,h2,h3⟩:=hn.snoc;have hl:=ZB n es
  have up:∀{i j:Nat},Conn es i j->Conn (es++[x]) i j:=λc=>c.mono λe he=>Yd _ he;have ex:Conn (es++[x]) x.1 x.2:=.edge S
  rw[Nx]at h;rcases(Dn J J).mp h with q|⟨q1,q2⟩
  .exact up (ih h1 i j hi hj q)
  .have ci:Conn (es++[x]) i x.1:=by
    rcases q1 with q|q
    .exact up (ih h1 i _ hi h2 q)
    .exact(up<|ih h1 i _ hi h3 q).trans ex.symm
   have cj:Conn (es++[x]) j x.1:=by
    rcases q2 with q|q
    .exact up (ih h1 j _ hj h2 q)
    .exact(up<|ih h1 j _ hj h3 q).trans ex.symm
   exact ci.trans cj.symm
theorem qw(hn:InN n es)(c:Conn es i j):i=j\/(i<n/\j<n/\mk (Xb n es) i=mk (Xb n es) j):=by
 induction c with
 |refl i=>exact .inl rfl
 |edge q=>exact .inr ⟨(hn _ q).1,(hn _ q).2,Df es hn _ q⟩
 |symm _ ih=>
  rcases ih with e|⟨a,b,c⟩
  .exact .inl e.symm
  .exact .inr ⟨b,a,c.symm⟩
 |trans _ _ i1 i2=>
  rcases i1 with e|⟨a,b,c⟩
  .rw[e];exact i2
  .rcases i2 with e|⟨a',b',c'⟩
   .rw[<-e];exact .inr ⟨a,b,c⟩
   .exact .inr ⟨a,b',c.trans c'⟩
theorem ZV(hn:InN n es)(hi:i<n)(hj:j<n):mk (Xb n es) i=mk (Xb n es) j↔Conn es i j:=by
 constructor
 .exact De es hn i j hi hj
 .intro c;rcases qw hn c with e|⟨_,_,e⟩
  .rw[e]
  .exact e
theorem QN(hn:InN n es)(hi:i<n)(hj:j<n):mk (Xs n es) i=mk (Xs n es) j↔Conn es i j:=by
 rw[<-ZV hn hi hj];have s:=xT (n:=n) (es:=es) hn
 exact s.2 i j (by rwa[ZD]) (by rwa[ZD])
def cnt(M:Ac):Nat:=(Vp M M.length).length
theorem MD(M:Ac):∃p,p<=i/\mk M p=mk M i/\Wn M p=true:=by
 induction i using Nat.strongRecOn with
 |ind i ih=>
  by_cases h:Wn M i=true
  .exact⟨i,XJ _,Z,h⟩
  .have:∃j,j<i/\mk M j=mk M i:=by
    by_cases q:∃j,j<i/\mk M j=mk M i
    .exact q
    .exact absurd (Xz.mpr λj hj e=>q ⟨j,hj,e⟩) h
   obtain⟨j,hj,e⟩:=this;obtain⟨p,h1,h2,h3⟩:=ih j hj;exact⟨p,J,h2.trans e,h3⟩
theorem ZS7{p q:Nat->Bool}{x n:Nat}(hx:x<n)(hpx:p x=true)(h:∀y,y<n->q y=(p y && !decide (y=x))):((List.range n).filter q).length+1=((List.range n).filter p).length:=by
 induction n with
 |zero=>exact absurd hx (Ws x)
 |succ n ih=>
  rw[PH,Qs,Qs,Xu,Xu];by_cases e:x=n
  .subst e;have e1:(List.range x).filter q=(List.range x).filter p:=LH λy hy=>by have hy:=YK.mp hy;rw[h y J,show decide (y=x)=false from YR J];simp
   have e2:q x=false:=by rw[h x J];simp
   rw[e1];simp[YT,e2,hpx]
  .have hq:q n=p n:=by rw[h n J,show decide (n=x)=false from YR λz=>e z.symm];simp
   have:=ih J λy hy=>h y J
   simp only[YT,vc,hq];lia
theorem xK(hp:Wn M p=true)(hq:Wn M q=true)(e:mk M p=mk M q):p=q:=by
 rcases Nat.lt_trichotomy p q with h|h|h
 .exact absurd e (Xz.mp hq p h)
 .exact h
 .exact absurd e.symm (Xz.mp hp q h)
theorem xJ(ha:a<m.length)(hb:b<m.length)(XH:mk m a≠mk m b):cnt (lm m a b)+1=cnt m:=by
 obtain⟨A,OY,Tw,MC⟩:=MD m (i:=a);obtain⟨uw,eA,MB,qv⟩:=MD m (i:=b);have hAB:A≠uw:=λe=>XH (by rw[<-Tw,<-MB,e])
 unfold cnt Vp;rw[xV];refine ZS7 (x:=max A uw) uE ?_ λy hy=>?_
 .rcases Nat.le_total A uw with h|h
  .rw[Nat.max_eq_right h];exact qv
  .rw[Nat.max_eq_left h];exact MC
 .rw[Qq,JU,Xz,Xz];have key:∀i,i<y->(mk (lm m a b) i=mk (lm m a b) y↔Gg m a b i y):=λi hi=>Dn J hy
  have qu:(!decide (y=max A uw))=true↔y≠max A uw:=S;rw[qu];constructor
  .intro q;refine⟨λi hi e=>q i hi<|(key i hi).mpr (.inl e),λe=>?_⟩;rcases Nat.lt_or_gt_of_ne hAB with h|h
   .have ey:y=uw:=J;subst ey;exact q A h ((key A h).mpr (.inr ⟨.inl Tw,.inr MB⟩))
   .have ey:y=A:=uE;subst ey;exact q uw h ((key uw h).mpr (.inr ⟨.inr MB,.inl Tw⟩))
  .rintro⟨q1,q2⟩ i hi e;rcases(key i hi).mp e with e|⟨e1,e2⟩
   .exact q1 i hi e
   .have fy:Wn m y=true:=Xz.mpr q1;rcases e2 with e2|e2
    .have ey:y=A:=xK fy MC (e2.trans Tw.symm);rcases e1 with e1|e1
     .exact q1 i hi (e1.trans e2.symm)
     .obtain⟨p,p1,p2,p3⟩:=MD m (i:=i)
      have:p=uw:=xK p3 qv (by rw[p2,e1,MB])
      grind
    .have ey:y=uw:=xK fy qv (e2.trans MB.symm);rcases e1 with e1|e1
     .obtain⟨p,p1,p2,p3⟩:=MD m (i:=i)
      have:p=A:=xK p3 MC (by rw[p2,e1,Tw])
      grind
     .exact q1 i hi (e1.trans e2.symm)
theorem qt(n:Nat):cnt ((List.range n).map λ(i:Nat)=>(i:Int))=n:=by
 unfold cnt Vp;rw[Yb,PL];have e:(List.range n).filter (Wn<|(List.range n).map λ(i:Nat)=>(i:Int))=List.range n:=by
  refine y7.mpr λp hp=>Xz.mpr λi hi e=>?_;have hp:=YK.mp hp
  rw[xM J,xM hp]at e;lia
 rw[e,PL]
theorem KY(hM:1<=M.length):cnt M=1↔∀i j,i<M.length->j<M.length->mk M i=mk M j:=by
 have e:cnt M=(IQ M).length:=by unfold cnt IQ;rw[eB,Yb]
 rw[e];exact eR hM
end My
namespace My
open PySem L2
theorem ZW8(m:Nat):IsSet m (WT 0 (m:Int)):=λi z e=>by
 unfold WT at e;rw[Yl,GF,YA]at e;by_cases hi:i<m
 .rw[Rh hi]at e;have e:(0:Int)+(i:Int)=z:=Ye e
  refine⟨J,uD,λy h0 ey=>?_⟩;rw[WT,Yl,GF,YA,Rh uE]at ey;have ey:(0:Int)+((i-1:Nat):Int)=y:=Ye ey
  lia
 .rw[Vs (by rw[PL];lia)]at e;cases e
theorem Sg{i:Int}{n:Nat}(h0:0<=i)(h1:i<(n:Int)):seqIndex? i n=some i.toNat:=by have e:(if i<0 then i+(n:Int) else i)=i:=if_neg J;unfold seqIndex?;simp only[e];rw[if_pos (by simp;lia)]
theorem eh:∀l k,(IL l).eraseIdx k=IL (l.eraseIdx k)
 |[],_=>rfl
 |_::_,0=>rfl
 |x::l,k+1=>by show V.int x::(IL l).eraseIdx k=V.int x::IL (l.eraseIdx k);rw[eh l k]
theorem ZG8{sl:Ac}:∀{ll:Ac}{k:Nat}{z:Int},ll[k]?=some z->((sl++[z])++ll.eraseIdx k).Perm (sl++ll):=λ{ll k z} h=>by
 rw[Wd];refine EE _ ?_;show(z::ll.eraseIdx k).Perm ll
 induction ll generalizing k with
 |nil=>simp at h
 |cons x r ih=>
  cases k with
  |zero=>
   have e:x=z:=by simpa using h
   rw[e];exact List.Perm.refl _
  |succ k=>
   have:=ih (k:=k) (by simpa using h)
   show(z::x::r.eraseIdx k).Perm (x::r);exact(List.Perm.swap x z _).trans (this.cons x)
def Zf(n:Int)(ps:Aa)(ns:Ac):Prop:=IsSet ps.length ns/\(ns.length:Int)=n-1/\∀i j,i<n.toNat->j<n.toNat->Conn (XR ps ns) i j
theorem ZO(g:Zz n ps)(h:∀z∈ns,0<=z/\z<(ps.length:Int)):InN n.toNat (XR ps ns):=λe he=>by
 obtain⟨z,hz,rfl⟩:=Yz.mp he;obtain⟨z0,z1⟩:=h z hz;have hp:ps[z.toNat]?=some (ps[z.toNat]'(by lia)):=Xw _
 rw[ZW hp];obtain⟨b1,b2,b3,b4⟩:=g.2.2.2 _ (Xi hp);exact⟨J,J⟩
theorem ZN(h:∀z∈ns,z∈ms):∀e∈XR ps ns,e∈XR ps ms:=λe he=>by obtain⟨z,hz,rfl⟩:=Yz.mp he;exact Yz.mpr ⟨z,h z hz,Z⟩
theorem xI(h:InN n es):(∀i j,i<(Xb n es).length->j<(Xb n es).length->mk (Xb n es) i=mk (Xb n es) j)↔∀i j,i<n->j<n->Conn es i j:=by
 rw[ZB];constructor
 .intro q i j hi hj;exact(ZV h hi hj).mp (q i j hi hj)
 .intro q i j hi hj;exact(ZV h hi hj).mpr (q i j hi hj)
theorem qr(hn:1<=n)(h:InN n es):(IQ (Xs n es)).length=1↔∀i j,i<n->j<n->Conn es i j:=by rw[eR (by rwa[ZD]),(xT h).one];exact xI h
theorem Zm8(hn:1<=n)(h:InN n es):(L2.seen (Xb n es)).length=1↔∀i j,i<n->j<n->Conn es i j:=by rw[qK (by rwa[ZB])];exact xI h
theorem qq(h:1<=L.length):1<=(L2.seen L).length:=by
 unfold L2.seen;have mm:=IP (λi=>L.getD i 0) L.length (L.getD 0 0)
 have:=mm.mpr ⟨0,J,Z⟩
 exact Fh this
theorem TX(h:∀z,z∈ns↔z∈ms):Conn (XR ps ns) i j↔Conn (XR ps ms) i j:=
 ⟨λc=>c.mono<|ZN λz hz=>(h z).mp hz,λc=>c.mono<|ZN λz hz=>(h z).mpr hz⟩
section
variable{K:Ad}{a:Addr}{xs:List V}{g:TG}{tt:TT}{te:TE}{o:Nat}{fr:List Nat}{σ:St}{H:Hp}{Q:VK}
theorem xH(Pv:Nat->List V->Hp->Prop)(h0:Pv 0 [] H)(hz:xs.length<sizeLine)(hl:∀i ys H,i<=xs.length->Pv i ys H->SqL K H a xs/\ys.length<=i)
  (hs:∀(i:Nat) x ys H (p:Addr),H p=none->xs[i]?=some x->Pv i ys H->IV Pv g tt te o fr σ i (.ref p) ys (upd H p<|.tup [.int i,x]))(hd:∀ys H,Pv xs.length ys H->∀p,H p=none->Q (.ref p) (upd H p<|.lst ys)):MI (Gn K a) g tt te o fr σ H Q:=by
 refine⟨λi m ys H=>m=xs.length-i/\i<=xs.length/\Pv i ys H,⟨xs.length,S,Yj _,h0⟩,?_⟩;rintro i m ys H ⟨rfl,hi,p⟩;obtain⟨q,hy⟩:=hl i ys H hi p;by_cases Xn:i<xs.length
 .refine .inr ⟨⟨xs,xs[i],q,by simp[Xn]⟩,J,λx H' zz=>?_⟩;obtain⟨T,y,hT,ex,eH,hyy⟩:=zz;subst ex eH;exact hs i y ys H T hT (hyy xs q) p (λj ys H=>∃m',m'<xs.length-i/\m'=xs.length-j/\j<=xs.length/\Pv j ys H) λys H p'=>⟨xs.length-(i+1),uE,Z,Xn,p'⟩
 .have e:i=xs.length:=J;subst e;exact .inl ⟨⟨xs,q,XJ _⟩,J,hd ys H p⟩
end
def unlike(M:Ac)(ps:Aa)(i:Nat):Ac:=((List.range i).filter λk=>decide<|mk M (ps.getD k (0,0)).1.toNat≠mk M (ps.getD k (0,0)).2.toNat).map λ(k:Nat)=>(k:Int)
theorem Dc(M:Ac)(ps:Aa)(i:Nat):unlike M ps (i+1)=unlike M ps i++(if mk M (ps.getD i (0,0)).1.toNat≠mk M (ps.getD i (0,0)).2.toNat then [(i:Int)] else []):=by
 unfold unlike;rw[PH,Qs,YG];congr 1;by_cases h:mk M (ps.getD i (0,0)).1.toNat≠mk M (ps.getD i (0,0)).2.toNat
 .rw[if_pos h,YT,if_pos (Yp h)];rfl
 .rw[if_neg h,YT,if_neg (by simpa using h)];rfl
theorem Zp6(M:Ac)(ps:Aa)(i:Nat):(unlike M ps i).length<=i:=by unfold unlike;rw[Yb];exact Yv (YF _ _) S
def wo(ns:Ac)(z:Int):Ac:=ns.filter λy=>decide (y≠z)
theorem Xg{z y:Int}:y∈wo ns z↔y∈ns/\y≠z:=by unfold wo;rw[Yh];simp
theorem KW(ns:Ac)(z:Int):(wo ns z).length<=ns.length:=YF _ _
theorem d9{ns:Ac}{y z:Int}(h:ns[i]?=some y):wo (ns.take (i+1)) z=wo (ns.take i) z++(if y≠z then [y] else []):=by
 unfold wo;rw[YJ,h,Qs];congr 1;by_cases e:y≠z
 .rw[if_pos e];show List.filter _ [y]=_;rw[YT,if_pos (Yp e)];rfl
 .rw[if_neg e];show List.filter _ [y]=_;rw[YT,if_neg (by simpa using e)];rfl
theorem ZU5(g:Zz n ps)(hM:M.length=n.toNat)(s:SameP M L):unlike M ps ps.length=unlike L ps ps.length:=by
 unfold unlike;congr 1;refine LH λk hk=>?_;have hk:=YK.mp hk
 have hp:ps[k]?=some ps[k]:=Xw hk;rw[ZW hp];obtain⟨b1,b2,b3,b4⟩:=g.2.2.2 _ (Xi hp)
 have:=s.2 ps[k].1.toNat ps[k].2.toNat uE uE
 rw[Qq,YV,YV];exact not_congr this
def Ti(n:Int)(ps:Aa)(ns:Ac)(z:Int)(l:Ac):Ac:=l.filter λy=>decide (z∈unlike (Xb n.toNat<|XR ps<|wo ns y) ps ps.length)
theorem d7{l:Ac}{y:Int}(h:l[i]?=some y):
  Ti n ps ns z (l.take<|i+1)=Ti n ps ns z (l.take i)++(if z∈unlike (Xb n.toNat<|XR ps<|wo ns y) ps ps.length then [y] else []):=by
 unfold Ti;rw[YJ,h,Qs];congr 1;by_cases e:z∈unlike (Xb n.toNat<|XR ps<|wo ns y) ps ps.length
 .rw[if_pos e];show List.filter _ [y]=_;rw[YT,if_pos (Yp e)];rfl
 .rw[if_neg e];show List.filter _ [y]=_;rw[YT,if_neg (by simpa using e)];rfl
theorem Gb(n:Int)(ps:Aa)(ns:Ac)(z:Int)(l:Ac):(Ti n ps ns z l).length<=l.length:=YF _ _
theorem Zo6{z:Int}(h0:0<=z)(h1:z<(ps.length:Int)):z∈unlike M ps ps.length↔mk M (ps.getD z.toNat (0,0)).1.toNat≠mk M (ps.getD z.toNat (0,0)).2.toNat:=by
 unfold unlike;rw[Yz];constructor
 .rintro⟨k,hk,rfl⟩
  have:=Yr (Yh.mp hk).2
  rwa[YA]
 .intro h;exact⟨z.toNat,Yh.mpr ⟨YK.mpr uE,Yp h⟩,J⟩
theorem xG{a b:Ac}(h:a.Perm b)(h1:a.Pairwise (·<=·))(h2:b.Pairwise (·<=·)):a=b:=by
 induction a generalizing b with
 |nil=>exact(List.Perm.nil_eq h)
 |cons x a ih=>
  cases b with
  |nil=>exact absurd h.length_eq S
  |cons y b=>
   obtain⟨hx,ha⟩:=QP.mp h1;obtain⟨hy,hb⟩:=QP.mp h2;have e:x=y:=by
    have m1:y∈x::a:=h.mem_iff.mpr Xd;have m2:x∈y::b:=h.mem_iff.mp Xd
    rcases Yg.mp m1 with e1|e1
    .exact e1.symm
    .rcases Yg.mp m2 with e2|e2
     .exact e2
     .have:=hx y e1;have:=hy x e2;lia
   subst e;rw[ih (List.Perm.cons_inv h) ha hb]
end My
namespace L2
open PySem PySem.Spec PyProof.Rows
section
variable{prog:Program}{w:World}{A:Around}{E:Ae}{s:Shared}
theorem Zb6{tp:Addr}{vs:Ag}{Q:List Value->Shared->Prop}{ot:Obj}(ht:s.heap.get? tp=some ot)(hc:ot.cls=.type "tuple")(hd:ot.data=.seq vs.toArray m)(hz:vs.length<=sizeLine)
  (k:Q vs {s with heap:=(s.heap.push<|seqObj "list" #[] 0).update s.heap.objs.size (Obj.mapSeq (·++vs.toArray))}):wpAny (model prog w) A (collect<|.ref tp) Q E s:=by
 have d6:(s.heap.push<|seqObj "list" #[] 0).get? tp=some ot:=Xc _ ht;have II:(s.heap.push<|seqObj "list" #[] 0).get? s.heap.objs.size=some (seqObj "list" #[] 0):=Yk _ rfl
 unfold collect;refine XU (yJ<|RP uQ ?_);show wpAny _ _ (do again (.builtin "list.__iadd__" ⟨[<-newList [],.ref tp],[]⟩)) _ _ s
 refine XU (JP<|Ym ⟨yT _ B,RP entry_list_iadd' ?_⟩);show wpAny _ _ (Builtin.List.listExtendWith (.ref s.heap.objs.size) (.ref tp)<|.ref s.heap.objs.size) _ _ {s with heap:=s.heap.push (seqObj "list" #[] 0)}
 unfold Builtin.List.listExtendWith;refine XU (EL (T:="tuple") ⟨ot,d6,hc⟩ ?_);rw[if_pos (by rw[show(Value.type "tuple" == Value.type "tuple")=true from Z];simp)];refine XU (listItems_at d6 hd ?_);refine XU (listItems_at (xs:=#[]) (n:=0) II Z ?_);rw[if_neg S];refine XU (Ss (xs:=#[]) (n:=0) II Z ?_ (Yj _)<|by show(#[]++vs.toArray).size<=sizeLine+1;simp only[Array.size_append,Yc,Nf];lia);refine Ym ?_;refine XU (EG (yD II _) ?_);show wpAny _ _ (pure ((#[]:Array Value)++vs.toArray).toList) Q E _
 rw[show((#[]:Array Value)++vs.toArray).toList=vs by simp];exact Ym k
theorem ZW5{tp:Addr}{Q:Ae}{ot:Obj}(ht:s.heap.get? tp=some ot)(hc:ot.cls=.type "tuple")(hd:ot.data=.seq vs.toArray m)(hI:IntsAre vs ns)(Qi:vs.length<64)
  (k:∀out ms,IntsAre out.toList ms->ms.Perm ns->ms.Pairwise (·<=·)->Q (.ref<|s.heap.objs.size+1) {s with heap:=sortedAll s.heap vs out}):
  wpAny (model prog w) A (call (.builtin "sorted") [.ref tp]) Q E s:=by
 have CZ:sizeLine=16777216:=TF;have hsz:((s.heap.push<|seqObj "list" #[] 0).update s.heap.objs.size (Obj.mapSeq (·++vs.toArray))).objs.size=s.heap.objs.size+1:=by rw[Heap.size_update,size_push']
 have JB:(((s.heap.push<|seqObj "list" #[] 0).update s.heap.objs.size (Obj.mapSeq (·++vs.toArray))).push (seqObj "list" vs.toArray 0)).get? (s.heap.objs.size+1)=some (seqObj "list" vs.toArray 0):=by rw[<-hsz];exact Yk _ rfl
 refine Calls.call_function_entry kind_sorted plain_sorted entry_sorted (args_sorted1 _) ?_;unfold Builtin.«sorted»;refine XU (m:=checkCount "sorted" 1 1 _) (Ym ?_);refine XU (Zb6 ht hc hd J ?_);refine XU (JP ?_);show wpAny _ _ _ _ _ {s with heap:=((s.heap.push<|seqObj "list" #[] 0).update s.heap.objs.size (Obj.mapSeq (·++vs.toArray))).push (seqObj "list" vs.toArray 0)}
 rw[hsz];refine XU (RN<|PJ slot_list_sort ⟨_,JB,Z⟩ entry_list_sort (list_sort_tree JB hI Qi λout ms b1 b2 b3=>⟨_,Z,?_⟩)<|args_list_sort _);exact Ym ⟨_,Z,k out ms b1 b2 b3⟩
end
section
variable{X:Cx}
theorem ZT4(K:Ad)(hk:X.K=K:=by rfl):Vx X (.builtin "sorted") (λxs H Q=>∃p ns,xs=[.ref p]/\SqT K H p (ns.map V.int)/\ns.length<64/\
  ∀ms:Ac,ms.Perm ns->ms.Pairwise (·<=·)->∀l,H l=none->Q (.ref l) (upd H l<|.lst<|ms.map V.int)):=by
 subst hk;intro pins s σ H xs us Q I r h;obtain⟨p,ns,rfl,hq,hn,q⟩:=h;obtain⟨u,rfl,ru⟩:=WL r;obtain rfl:u=Value.ref p:=ru;obtain⟨XT,rv,⟨ot,h1,h2,m,h3⟩,hz⟩:=I.tuple hq;have hi:=ZA rv
 have hl:XT.length=ns.length:=by rw[<-rv.length,Yb]
 refine ZW5 h1 h2 h3 hi J λout ms b1 b2 b3=>?_;obtain⟨e,he⟩:=sortedAll_at s.heap XT out;have Nw:ms.length=ns.length:=b2.length_eq
 refine⟨.ref<|s.heap.objs.size+1,_,I.laid (t':=s.toks) (o:=.lst<|ms.map V.int) (λb o g=>sortedAll_old g) (TH _) ⟨?_,out.toList,e,OZ b1,he⟩,Z,q ms b2 b3 _<|I.hok.fresh<|TH _⟩;rw[Yb,Nw]
 have:sizeLine=16777216:=TF
 lia
inductive rCatU(K:Ad)(x:V)(y:V)(H:Hp)(Q:VK):Prop
 |mk (a b xs ys:_) (_:x=.ref a) (_:y=.ref b) (_:SqT K H a xs) (_:SqT K H b ys) (_:xs.length+ys.length<=sizeLine) (_:(xs=[]->Q (.ref b) H)) (_:(xs≠[]->ys=[]->Q (.ref a) H)) (_:(xs≠[]->ys≠[]->∀p,H p=none->Q (.ref p) (upd H p<|.tup<|xs++ys)))
theorem OX(K:Ad)(hk:X.K=K:=by rfl):WH X (binaryOp .Add) (rCatU K):=by
 intro pins s σ H x y v u Q I rx ry h;obtain⟨a,b,xs,ys,e1,e2,ha,hb,hz,q0,q1,q2⟩:=id h;by_cases hx:xs=[]
 .subst hk e1 e2;cases rx;cases ry;obtain⟨XT,r1,p1,_⟩:=I.tuple ha;obtain⟨VT,r2,p2,_⟩:=I.tuple hb;have hi:XT=[]:=r1.nil_iff.mpr hx
  obtain⟨⟨cls,dd,data,sl⟩,ho,hc,n,hd⟩:=id p1;obtain⟨⟨DR,Li,data2,Lh⟩,UK,Wc,n2,hd2⟩:=id p2;simp only at hc hd Wc hd2;subst hc hd Wc hd2;exact concat_meets ⟨_,ho,Z⟩ ⟨_,UK,Z⟩ uP seq_tuple_add vC vH (JL _ _)
   (tuple_addW0 a b XT.toArray VT.toArray n n2 dd Li sl Lh<|by simp[hi]) ⟨ho,UK,⟨.ref b,H,I,Z,q0 hx⟩⟩
 .exact qS K hk pins s σ H x y v u Q I rx ry ⟨a,b,xs,ys,e1,e2,ha,hb,hx,hz,q1 hx,q2 hx⟩
end
end L2
namespace My
open PySem L2
theorem KU(h:mk m a=mk m b):lm m a b=m:=by unfold lm;rw[if_neg λz=>z h]
theorem d5(ha:a<m.length)(hb:b<m.length):cnt m<=cnt (lm m a b)+1:=by
 by_cases e:mk m a=mk m b
 .rw[KU e];lia
 .have:=xJ ha hb e;lia
theorem xF:∀es:List (Nat×Nat),InN n es->n<=cnt (Xb n es)+es.length:=by
 refine ME (λ_=>?_) λes x ih hn=>?_
 .have:cnt (Xb n [])=n:=qt n
  lia
 .obtain⟨h1,h2,h3⟩:=hn.snoc;have hl:=ZB n es
  have:=d5 (m:=Xb n es) (a:=x.1) (b:=x.2) J J
  have:=ih h1
  rw[Nx,Xu,Yt,Nf];lia
theorem qp(h:1<=M.length):1<=cnt M:=by unfold cnt Vp;refine Fh (a:=0) (Yh.mpr ⟨YK.mpr J,Xz.mpr λi hi=>absurd hi<|Ws i⟩)
theorem KS(hn:1<=n)(h:InN n es):cnt (Xb n es)=1↔∀i j,i<n->j<n->Conn es i j:=by rw[KY (by rwa[ZB])];exact xI h
theorem CY(hn:ts.Nodup)(ho:o∈ts):(wo ts o).length+1=ts.length:=by
 induction ts with
 |nil=>cases ho
 |cons x r ih=>
  obtain⟨h1,h2⟩:=RQ.mp hn;unfold wo;rw[YT];by_cases e:x=o
  .subst e;rw[if_neg S]
   have:r.filter (λy=>decide<|y≠x)=r:=y7.mpr λy hy=>Yp λe=>h1 (e▸hy)
   rw[this];rfl
  .rw[if_pos (Yp e)]
   have:=ih h2 ((Yg.mp ho).resolve_left λz=>e z.symm)
   unfold wo at this;rw[Yt,Yt];lia
def Zx(ps:Aa)(z:Int):Nat×Nat:=((ps.getD z.toNat (0,0)).1.toNat,(ps.getD z.toNat (0,0)).2.toNat)
theorem IG(ps:Aa)(ns:Ac)(z:Int):XR ps (ns++[z])=XR ps ns++[Zx ps z]:=by unfold XR Zx;rw[YG];rfl
theorem Th(g:Zz n ps)(z0:0<=z)(z1:z<(ps.length:Int)):(Zx ps z).1<n.toNat/\(Zx ps z).2<n.toNat:=by
 have:=ZO (ns:=[z]) g (λy hy=>by rw[XG.mp hy];exact⟨z0,z1⟩)
 exact this (Zx ps z) (by unfold XR Zx;simp)
theorem KR(hT:Zf n ps ts):∀y∈wo ts o,0<=y/\y<(ps.length:Int):=λy hy=>hT.1.all y (Xg.mp hy).1
theorem IF(g:Zz n ps)(hT:Zf n ps ts)(ho:o∈ts)(z0:0<=z)(z1:z<(ps.length:Int)):
  (∀i j,i<n.toNat->j<n.toNat->Conn (XR ps<|wo ts o++[z]) i j)↔¬Conn (XR ps<|wo ts o) (Zx ps z).1 (Zx ps z).2:=by
 have hn:1<=n.toNat:=by have:=g.1;lia
 have hw:=CY hT.1.nodup ho;have hl:(ts.length:Int)=n-1:=hT.2.1
 have i0:InN n.toNat (XR ps<|wo ts o):=ZO g (KR hT);have hz:=Th g z0 z1
 have ob:=hT.1.all o ho;have Ga:=Th g ob.1 ob.2
 have i1:InN n.toNat (XR ps (wo ts o)++[Zx ps z]):=λe he=>(XE.mp he).elim (i0 e) λq=>by rwa[XG.mp q]
 have i2:InN n.toNat (XR ps (wo ts o)++[Zx ps o]):=λe he=>(XE.mp he).elim (i0 e) λq=>by rwa[XG.mp q]
 have hL:=ZB n.toNat (XR ps<|wo ts o);have le:(XR ps<|wo ts o).length=(wo ts o).length:=by unfold XR;rw[Yb]
 rw[IG];constructor
 .intro hc c;have h1:cnt (Xb n.toNat<|XR ps (wo ts o)++[Zx ps z])=1:=(KS hn i1).mpr hc
  rw[Nx,KU ((ZV i0 hz.1 hz.2).mpr c)]at h1
  have:=xF _ i0
  lia
 .intro hc;have h2:cnt (Xb n.toNat<|XR ps (wo ts o)++[Zx ps o])=1:=by
   refine(KS hn i2).mpr λi j hi hj=>?_;rw[<-IG];refine(TX λy=>?_).mp (hT.2.2 i j hi hj);rw[XE,Xg,XG];constructor
   .intro hy;by_cases e:y=o
    .exact .inr e
    .exact .inl ⟨hy,e⟩
   .rintro(q|q)
    .exact q.1
    .rw[q];exact ho
  rw[Nx]at h2;have h3:=d5 (m:=Xb n.toNat<|XR ps<|wo ts o) (a:=(Zx ps o).1) (b:=(Zx ps o).2) J J
  have h4:=xJ (m:=Xb n.toNat<|XR ps<|wo ts o) (a:=(Zx ps z).1) (b:=(Zx ps z).2) J J λe=>hc ((ZV i0 hz.1 hz.2).mp e);have h5:=qp (M:=lm (Xb n.toNat<|XR ps<|wo ts o) (Zx ps z).1 (Zx ps z).2) (by rw[xV];lia)
  refine(KS hn i1).mp ?_;rw[Nx];lia
def US(n:Int)(ps:Aa)(ts:Ac)(o:Int):Ac:=unlike (Xb n.toNat<|XR ps<|wo ts o) ps ps.length
theorem Zq6{z:Int}(h:z∈unlike M ps i):0<=z/\z<(i:Int):=by
 unfold unlike at h;obtain⟨k,hk,rfl⟩:=Yz.mp h
 have:=YK.mp (Yh.mp hk).1
 lia
theorem Vo(g:Zz n ps)(hT:Zf n ps ts)(z0:0<=z)(z1:z<(ps.length:Int)):z∈US n ps ts o↔¬Conn (XR ps (wo ts o)) (Zx ps z).1 (Zx ps z).2:=by have hz:=Th g z0 z1;unfold US;rw[Zo6 z0 z1];exact not_congr (ZV (ZO g<|KR hT) hz.1 hz.2)
def exg(n:Int)(ps:Aa)(ts:Ac)(o z:Int):Prop:=o∈ts/\z≠o/\z∈US n ps ts o
instance (n:Int) (ps:Aa) (ts:Ac) (o z:Int):Decidable (exg n ps ts o z):=by unfold exg;infer_instance
theorem CW(g:Zz n ps)(hT:Zf n ps ts):
  exg n ps ts o z↔o∈ts/\z∉ts/\0<=z/\z<(ps.length:Int)/\∀i j,i<n.toNat->j<n.toNat->Conn (XR ps<|wo ts o++[z]) i j:=by
 constructor
 .rintro⟨h1,h2,h3⟩;obtain⟨z0,z1⟩:=Zq6 h3;have hc:=(Vo g hT z0 z1).mp h3
  refine⟨h1,λhz=>hc ?_,z0,z1,(IF g hT h1 z0 z1).mpr hc⟩;refine .edge ?_;exact Yz.mpr ⟨z,Xg.mpr ⟨hz,h2⟩,Z⟩
 .rintro⟨h1,h2,z0,z1,hc⟩;exact⟨h1,λe=>h2<|e▸h1,(Vo g hT z0 z1).mpr ((IF g hT h1 z0 z1).mp hc)⟩
end My
namespace L2
open PySem PySem.Spec PyProof.Rows
theorem CV:mroOf (.type "reversed")=pure [.type "reversed",.type "object"]:=by rw[mroOf_type];kernel_rfl
theorem qo:PySem.Slot "reversed" "__init__" "object.__init__":=
 .of (owner:="object") (n:="__init__") (by rw[NN,NQ];kernel_rfl) B B B
  (by first|exact .inl B|exact .inr B) (by rw[Ud];kernel_rfl)
theorem Zp8:TypeCalled "reversed" "reversed.__new__" "object.__init__":=
 ⟨B,B,⟨_,_,CV⟩,madeBy_type CV PySem.F.lookup_reversed_new B,B,by rw[Ud];kernel_rfl,qo⟩
theorem d4:Manifest.owners.lookup (String.ofList ['d','e','s','r','e','v','e','r'].reverse)=some Manifest.sig_reversed:=by kernel_rfl
theorem VR:PySem.Slot "reversed" "__next__" "reversed.__next__":=
 .of (owner:="reversed") (n:="__next__") (by rw[NN,NQ];kernel_rfl) B B B
  (by first|exact .inl B|exact .inr B) (by rw[Ud];kernel_rfl)
theorem d3:entryFor table "reversed.__next__"=some Builtin.«reversed.__next__»:=entryFor_of_tree uH
theorem dZ(a:Value):argsOk "reversed.__next__" ⟨[a],[]⟩:=by unfold argsOk;rw[EM (id:="reversed.__next__") (n:=['_','_','t','x','e','n','_','_']) (o:=['d','e','s','r','e','v','e','r']) uH d4];kernel_rfl
theorem dY:PySem.Slot "reversed" "__iter__" "reversed.__iter__":=
 .of (owner:="reversed") (n:="__iter__") (by rw[NN,NQ];kernel_rfl) B B B
  (by first|exact .inl B|exact .inr B) (by rw[Ud];kernel_rfl)
theorem qm(a:Value):argsOk "reversed.__iter__" ⟨[a],[]⟩:=by unfold argsOk;rw[EM (id:="reversed.__iter__") (n:=['_','_','r','e','t','i','_','_']) (o:=['d','e','s','r','e','v','e','r']) uH d4];kernel_rfl
theorem ql:entryFor table "reversed.__iter__"=some Builtin.«dict_keyiterator.__iter__»:=
 entryFor_alias (id':="dict_keyiterator.__iter__") uH (by first|rfl|decide +kernel|(unfold String.splitOn;simp +decide [String.splitOnAux])) B uH
theorem qk:typeLookup (.type "tuple") "__reversed__"=pure none:=by rw[NN,NQ];kernel_rfl
theorem Zo8:isSubtype (.type "tuple") (.type "dict")=pure false:=by rw[Ud];kernel_rfl
theorem qj(l:Addr)(items:Array Value)(n:Nat)(dd:Option Addr)(sl:Array (Option Value)):
  Meets (Builtin.«reversed.__new__» ⟨[.type "reversed",.ref l],[]⟩) (λ_ R s=>s.heap.get? l=some {cls:=.type "tuple",dict:=dd,data:=.seq items n,slots:=sl}/\¬(items.size:Int) >= 2^63/\
   ∀tk,R (.ok<|.ret<|.ref s.heap.objs.size) {s with heap:=s.heap.push {cls:=.type "reversed",data:=.fields #[.ref l,rawInt ((items.size:Int)-1)]},toks:=tk}):=
 .of_wp λprog w A R s h=>by
  obtain⟨hl,hf,h⟩:=h;have hT:s.TypeIs (.ref l) "tuple":=⟨_,hl,Z⟩
  have f0:=PySem.F.sub_reversed_self;have f1:=qk
  have f2:=Zo8;have f3:=gE.lookup
  unfold Builtin.«reversed.__new__»;refine XU (SM (newClass_reversed _) ?_)
  try dsimp only
  refine XU (SM (a:=()) (by first|rfl|kernel_rfl) ?_)
  refine XU (SM (a:=()) (by first|rfl|kernel_rfl) ?_)
  try dsimp only
  refine XU (GG hT f1 ?_)
  try dsimp only
  refine XU ?_
  wp_delta
  refine XU (GI (T:="tuple") (b:=false) hT f2 ?_);rw[if_neg uB];refine XU (GG hT f3 ?_);dsimp only;rw[if_pos B];refine Ym ?_;rw[if_neg uB];refine XU (len_tuple ⟨_,hl,Z,n,Z⟩ uD ?_);refine XU (SM (a:=some (items.size:Int)) Z ?_);dsimp only;refine XU ?_;unfold Builtin.SmallTypes.newRecord;refine Qr ?_ (by size_fits);exact Ym ⟨_,Z,h _⟩
def IsRv(h:Heap)(r l:Addr)(i:Int):Prop:=∃o,h.get? r=some o/\o.cls=.type "reversed"/\o.data=.fields #[.ref l,rawInt i]
theorem IsRv.ty{s:Shared}(x:IsRv s.heap r l i):s.TypeIs (.ref r) "reversed":=by obtain⟨o,a,b,_⟩:=x;exact⟨o,a,b⟩
theorem IsRv.keep(x:IsRv h r l i)(e:∀o,h.get? r=some o->h'.get? r=some o):IsRv h' r l i:=by obtain⟨o,a,b⟩:=x;exact⟨o,e _ a,b⟩
section
variable{prog:Program}{w:World}{A:Around}{E:Ae}{s:Shared}
theorem qi{Q:Ae}(hl:IsTup s.heap l items)(hf:(items.size:Int)<2^63)
  (k:∀tk h',IsRv h' s.heap.objs.size l ((items.size:Int)-1)->(∀b o,s.heap.get? b=some o->h'.get? b=some o)->h'.objs.size=s.heap.objs.size+1->Q (.ref s.heap.objs.size) {s with heap:=h',toks:=tk}):
  wpAny (model prog w) A (call (.type "reversed") [.ref l]) Q E s:=by
 obtain⟨⟨cls,dd,data,sl⟩,ho,hc,n,hd⟩:=id hl;simp only at hc hd;subst hc hd;refine callType_new Zp8 uB (PySem.F.typeCall_reversed_1 _) (PySem.F.newCall_reversed_1 _) (λobj=>PySem.F.args_object_init_2 obj _) PySem.F.entry_reversed_new (qj l items n dd sl) ⟨ho,J,λtk=>?_⟩;have e:=Yk s.heap (o:={cls:=.type "reversed",data:=.fields #[.ref l,rawInt ((items.size:Int)-1)]}) rfl
 exact⟨⟨_,e,Z⟩,k tk _ ⟨_,e,Z,Z⟩ (λb o g=>Xc _ g)<|UH ..⟩
theorem qh{i:Nat}{x:Value}{Q:Option Value->Shared->Prop}(hr:IsRv s.heap r l (i:Int))(hl:IsTup s.heap l items)(hx:items[i]?=some x)(KQ:(i:Int)<2^63)
  (hQ:∀h' tk,IsRv h' r l ((i:Int)-1)->Heap.SameBut r s.heap h'->Q (some x) {s with heap:=h',toks:=tk}):wpAny (model prog w) A (pyNext<|.ref r) Q E s:=by
 obtain⟨o,ho,hc,hd⟩:=id hr;have hi:i<items.size:=(gD.mp hx).1
 unfold pyNext;refine XU (LD<|GR (name:=Str.ofString "__next__") hr.ty VR<|PJ VR hr.ty d3 ?_<|dZ _);unfold Builtin.«reversed.__next__»;refine XU (SM (a:=(Value.ref r,[])) Z ?_);dsimp only;refine XU (EH ho hd (x:=.ref l) Z ?_);refine XU (EH ho hd (x:=rawInt (i:Int)) Z ?_);show wpAny _ _ (if (i:Int)<0 then _ else _) _ _ s
 rw[if_neg J];refine XU (GG hl.typeIs gE.lookup ?_);rw[if_neg S];refine XU (wpAny_mkInt ?_);refine XU (LD<|getItem_tuple (j:=i) hl J KQ (My.Sg J uD) hx ?_);dsimp only;refine XU (EH ho hd (x:=rawInt (i:Int)) Z ?_);show wpAny _ _ (setField (.ref r) 1 (rawInt<|(i:Int)-1) >>= _) _ _ _
 refine XU (Ue ho hd S ?_);refine Ym ⟨x,Z,Ym<|hQ _ _ ⟨_,VF _ ho<|Rj<|RR hd _,(yR ..).trans hc,?_⟩<|PM ..⟩;rw[RR hd];simp
theorem qg{Q:Option Value->Shared->Prop}(hh:A.handled=none)(hr:IsRv s.heap r l (-1))(hQ:∀h',Heap.ExtBut r s.heap h'->Q none {s with heap:=h'}):wpAny (model prog w) A (pyNext<|.ref r) Q E s:=by
 obtain⟨o,ho,hc,hd⟩:=id hr;unfold pyNext;refine XU (LD<|GR (name:=Str.ofString "__next__") hr.ty VR<|PJ VR hr.ty d3 ?_<|dZ _);unfold Builtin.«reversed.__next__»;refine XU (SM (a:=(Value.ref r,[])) Z ?_);dsimp only;refine XU (EH ho hd (x:=.ref l) Z ?_);refine XU (EH ho hd (x:=rawInt (-1)) Z ?_);show wpAny _ _ (if (-1:Int)<0 then _ else _) _ _ s
 rw[if_pos uB];refine XU (Gz ?_);refine XU ?_
 wp_delta
 refine XU (Ue ho hd S ?_);have UK:=VF (Obj.mapFields λvs=>vs.setIfInBounds 1<|rawInt (-1)) ho (Rj<|RR hd _)
 refine Ue UK (RR hd _) S ?_;refine XU ?_;show wpAny _ _ (newExc (.type "StopIteration") [] >>= _) _ _ _
 refine XU ?_;simp only[newExc,newTuple];refine XU (Qr ?_<|by size_fits);refine XU (m:=firstArgMember _ _) (SM (a:=Value.none) (by first|rfl|(simp only[firstArgMember];rfl)) ?_)
 refine Qr ?_ (by size_fits);simp only[raiseNew];refine XU (wpAny_handled ?_);rw[show A.in1.handled=none from hh];refine XU (Ym<|wpAny_throw ?_);refine XU (GI (T:="StopIteration") (b:=true) ⟨_,Yk _ Z,Z⟩ isSubtype_stop ?_);exact Ym (hQ _<|((((PM ..).trans (PM ..)).extBut).push _).push _)
theorem dX{Q:Ae}(hr:IsRv s.heap r l i)(h:Q (.ref r) s):wpAny (model prog w) A (pyIter (.ref r)) Q E s:=by
 refine uW hr.ty dY (PJ dY hr.ty ql ?_<|qm _);show wpAny _ _ (ret<|.ref r) _ _ s
 exact Ym ⟨_,Z,"reversed",_,hr.ty,VR.lookup,h⟩
end
section
variable{X:Cx}
theorem qf{e:Addr->Bool}(I:Inv X pins σ H s)(hu:A.units+n<cLine)(rx:RelV x w){xs:List V}{us:Ag}(h0:Vals xs us)(h:∀v∈xs,∃a,v=.ref a/\EqD X.K H n v x (e a)):∀u∈us,SeqAt.EqAt A s u w (match u with | .ref a=>e a|_=>false):=by
 induction h0 with
 |nil=>intro u hu;cases hu
 |@cons y u xs us r t ih=>
  intro u' qd;rcases Yg.mp qd with rfl|qd
  .obtain⟨a,rfl,q⟩:=h y Xd;obtain rfl:u'=Value.ref a:=r;exact q.at I hu Z rx
  .exact ih (λv hv=>h v<|Yf _ hv) u' qd
end
end L2
namespace My
open PySem L2
theorem CU{o y:Int}(g:Zz n ps)(hT:Zf n ps ts)(ho:o∈ts)(hy:y∈ts):y∈US n ps ts o↔y=o:=by
 have yb:=hT.1.all y hy;rw[Vo g hT yb.1 yb.2];constructor
 .intro h;by_cases e:y=o
  .exact e
  .exact absurd (.edge<|Yz.mpr ⟨y,Xg.mpr ⟨hy,e⟩,Z⟩) h
 .rintro rfl;refine(IF g hT hy yb.1 yb.2).mp λi j hi hj=>(TX λz=>?_).mp (hT.2.2 i j hi hj);rw[XE,Xg,XG];constructor
  .intro hz;by_cases e:z=y
   .exact .inr e
   .exact .inl ⟨hz,e⟩
  .rintro(q|q)
   .exact q.1
   .rw[q];exact hy
theorem VC:y∈Ti n ps ts z l↔y∈l/\z∈US n ps ts y:=by unfold Ti;rw[Yh,YV];exact Iff.rfl
theorem xE(g:Zz n ps)(hT:Zf n ps ts)(hx:exg n ps ts o z)(Vh:ms.Perm (wo ts o++[z]))(OW:ms.Pairwise (·<=·)):Zf n ps ms:=by
 obtain⟨ho,hz,z0,z1,hc⟩:=(CW g hT).mp hx;have nd:(wo ts o++[z]).Nodup:=IT (hT.1.nodup.sublist List.filter_sublist) λh=>hz (Xg.mp h).1
 have qc:ms.Nodup:=Vh.nodup_iff.mpr nd;have hl:=CY hT.1.nodup ho
 have SD:=Vh.length_eq;rw[Xu,Yu]at SD;refine⟨XX.mpr ⟨λy hy=>?_,(fV.mpr ⟨OW,qc⟩).imp λ{x y} h=>by have:=h.1;have:=h.2;lia⟩,by rw[SD,hl];exact hT.2.1,λi j hi hj=>(TX λy=>Vh.mem_iff).mpr (hc i j hi hj)⟩;rcases XE.mp (Vh.mem_iff.mp hy) with h|h
 .exact hT.1.all y (Xg.mp h).1
 .rw[XG.mp h];exact⟨z0,z1⟩
section
variable{n:Int}{ps:Aa}{ts ms:Ac}{o z:Int}(g:Zz n ps)(hT:Zf n ps ts)(hx:exg n ps ts o z)(Vh:ms.Perm (wo ts o++[z]))(OW:ms.Pairwise (·<=·))
include g hT hx Vh OW
theorem xD{y:Int}:y∈ms↔(y∈ts/\y≠o)\/y=z:=by rw[Vh.mem_iff,XE,Xg,XG]
end
theorem qb:∀{a b:Ac},a.length=b.length->HT.lexLt a b=true->∃p x y r s,a=p++x::r/\b=p++y::s/\x<y
 |[],[],_,h=>by cases h
 |[],_::_,e,_=>by simp at e
 |_::_,[],e,_=>by simp at e
 |x::xs,y::ys,e,h=>by
  rw[HT.Xl]at h;by_cases q:x=y
  .subst q;rw[if_pos Z]at h;obtain⟨p,u,v,r,s,e1,e2,e3⟩:=qb (by simpa using e) h;exact⟨x::p,u,v,r,s,by rw[e1];rfl,by rw[e2];rfl,e3⟩
  .rw[if_neg q]at h;exact⟨[],x,y,xs,ys,Z,Z,Yr h⟩
theorem Tg:∀{a b:Ac},HT.lexLt a b=false->HT.lexLt b a=false->a=b
 |[],[],_,_=>rfl
 |[],_::_,h,_=>by cases h
 |_::_,[],_,h=>by cases h
 |x::xs,y::ys,h1,h2=>by
  rw[HT.Xl]at h1 h2;by_cases q:x=y
  .subst q;rw[if_pos Z]at h1 h2;rw[Tg h1 h2]
  .rw[if_neg q]at h1;rw[if_neg λe=>q e.symm]at h2
   have:=of_decide_eq_false h1
   have:=of_decide_eq_false h2
   lia
theorem xC:∀{a b c:Ac},HT.lexLt a b=true->HT.lexLt b c=true->HT.lexLt a c=true
 |[],[],_,h,_=>by cases h
 |[],_::_,[],_,h=>by cases h
 |[],_::_,_::_,_,_=>rfl
 |_::_,[],_,h,_=>by cases h
 |_::_,_::_,[],_,h=>by cases h
 |x::xs,y::ys,z::zs,h1,h2=>by
  rw[HT.Xl]at h1 h2 ⊢;by_cases e1:x=y
  .subst e1;rw[if_pos Z]at h1;by_cases e2:x=z
   .subst e2;rw[if_pos Z]at h2 ⊢;exact xC h1 h2
   .rw[if_neg e2]at h2 ⊢;exact h2
  .rw[if_neg e1]at h1;have h1:=Yr h1
   by_cases e2:y=z
   .subst e2;rw[if_neg e1];exact Yp h1
   .rw[if_neg e2]at h2;have h2:=Yr h2
    rw[if_neg J];exact Yp uD
theorem FZ:∀a:Ac,HT.lexLt a a=false
 |[]=>rfl
 |x::xs=>by rw[HT.Xl,if_pos Z];exact FZ xs
theorem RI(bt:Nat->Nat->Bool):∀j,argBest bt j<=j
 |0=>XJ _
 |j+1=>by
  unfold argBest;split
  .exact XJ _
  .have:=RI bt j;lia
def Wy(H:Hp)(v:V)(l:Ac):Prop:=∃a,v=.ref a/\H a=some (.tup<|IL l)
def Tf(s:Ac):Int:=match s.getLast? with|none=>0|some x=>x+1
def UR(m:Int)(s:Ac):Ab:=(List.range (m-Tf s).toNat).map λ(i:Nat)=>s++[Tf s+(i:Int)]
def OV(m:Int):Nat->Ab
 |0=>[[]]
 |k+1=>(OV m k).flatMap (UR m)
theorem qa(s:Ac)(x:Int):Tf (s++[x])=x+1:=by unfold Tf;rw[List.getLast?_append];rfl
theorem Wm{s l:Ac}:l∈UR m s↔∃t,Tf s<=t/\t<m/\l=s++[t]:=by
 unfold UR;rw[Yz];constructor
 .rintro⟨i,hi,rfl⟩
  have:=YK.mp hi
  exact⟨_,J,uD,Z⟩
 .rintro⟨t,h1,h2,rfl⟩;exact⟨(t-Tf s).toNat,YK.mpr J,by rw[show Tf s+(((t-Tf s).toNat:Nat):Int)=t by lia]⟩
theorem Te{t:Int}:IsSet m (s++[t])↔IsSet m s/\Tf s<=t/\0<=t/\t<(m:Int):=by
 rw[XX,XX,PN];have last:(∀a∈s,∀b∈[t],a<b)/\s.Pairwise (·<·)->Tf s<=t\/t<0:=by
  rintro⟨h,_⟩;unfold Tf;cases e:s.getLast? with
  |none=>by_cases h0:0<=t;exact .inl h0;exact .inr J
  |some x=>have:=h x (vw e) t S;exact .inl (by show x+1<=t;lia)
 constructor
 .rintro⟨h1,h2,_,h3⟩;have ht:=h1 t S
  refine⟨⟨λz hz=>h1 z<|Yd _ hz,h2⟩,?_,ht⟩;rcases last ⟨h3,h2⟩ with h|h
  .exact h
  .omega
 .rintro⟨⟨h1,h2⟩,h3,h4,h5⟩;refine⟨λz hz=>?_,h2,NR ..,λa ha b hb=>?_⟩
  .rcases XE.mp hz with h|h
   .exact h1 z h
   .rw[XG.mp h];exact⟨h4,h5⟩
  .rw[XG.mp hb];have key:∀{s:Ac}{a:Int},s.Pairwise (·<·)->a∈s->a<Tf s:=by
    refine λ{s}=>ME (P:=λs=>∀{a:Int},s.Pairwise (·<·)->a∈s->a<Tf s) (λ{a} _ h=>by cases h) (λl x ih {a} hp h=>?_) s;rw[qa];rw[PN]at hp;rcases XE.mp h with h|h
    .have:=hp.2.2 a h x S;lia
    .rw[XG.mp h];lia
   have:=key h2 ha
   lia
theorem VQ{m:Nat}:∀{k:Nat}{l:Ac},l∈OV (m:Int) k↔l.length=k/\IsSet m l
 |0,l=>by
  show l∈[[]]↔_;rw[XG];constructor
  .rintro rfl;exact⟨Z,λi z e=>by simp at e⟩
  .rintro⟨h,_⟩;exact YY.mp h
 |k+1,l=>by
  show l∈(OV (m:Int) k).flatMap (UR m)↔_;rw[List.mem_flatMap];constructor
  .rintro⟨s,hs,hl⟩;obtain⟨t,h1,h2,rfl⟩:=Wm.mp hl;obtain⟨e,hI⟩:=VQ.mp hs;have n0:0<=Tf s:=by
    unfold Tf;cases q:s.getLast? with
    |none=>exact Lw 0
    |some x=>have:=(hI.all x<|vw q).1;show 0<=x+1;lia
   exact⟨by rw[Xu,e];rfl,Te.mpr ⟨hI,h1,J,h2⟩⟩
  .rintro⟨e,hI⟩;have XH:l≠[]:=λz=>by rw[z]at e;simp at e
   obtain⟨s,t,rfl⟩:∃s t,l=s++[t]:=⟨l.dropLast,l.getLast XH,(EJ XH).symm⟩;obtain⟨h1,h2,h3,h4⟩:=Te.mp hI;exact⟨s,VQ.mpr ⟨by rw[Xu]at e;simpa using e,h1⟩,Wm.mpr ⟨t,h2,h4,Z⟩⟩
theorem p9(h:IsSet m s):(UR (m:Int) s).length<=m:=by
 unfold UR;rw[Yb,PL];have n0:0<=Tf s:=by
  unfold Tf;cases q:s.getLast? with
  |none=>exact Lw 0
  |some x=>have:=(h.all x<|vw q).1;show 0<=x+1;lia
 omega
theorem dW:∀L:Ab,(∀s∈L,IsSet m s)->(L.flatMap (UR (m:Int))).length<=m*L.length
 |[],_=>Yj _
 |s::L,h=>by
  have:=dW L λx hx=>h x (Yf _ hx)
  have:=p9 (h s Xd)
  rw[List.flatMap_cons,Xu,Yt,Nat.mul_succ];lia
theorem CT:∀{w t:Ac},t.Pairwise (·<·)->w.Pairwise (·<·)->(∀z∈t,z∈w)->t.Sublist w
 |[],[],_,_,_=>List.Sublist.slnil
 |[],x::t,_,_,h=>absurd (h x Xd) S
 |y::w,[],_,_,_=>List.nil_sublist _
 |y::w,x::t,ht,hw,h=>by
  obtain⟨h1,h2⟩:=QP.mp ht;obtain⟨h3,h4⟩:=QP.mp hw;by_cases e:x=y
  .subst e;refine List.Sublist.cons₂ _ (CT h2 h4 λz hz=>?_);rcases Yg.mp (h z<|Yf _ hz) with q|q
   .have:=h1 z hz;lia
   .exact q
  .have hx:x∈w:=(Yg.mp<|h x Xd).resolve_left e;refine List.Sublist.cons _ (CT ht h4 λz hz=>?_);rcases Yg.mp (h z hz) with q|q
   .have:=h3 x hx
    rcases Yg.mp hz with q2|q2
    .rw[q2];exact hx
    .have:=h1 z q2;lia
   .exact q
def Nv(M:Ac)(es:List (Nat×Nat)):Ac:=es.foldl (λm e=>pm m e.1 e.2) M
theorem p8(M:Ac)(es:List (Nat×Nat))(e:Nat×Nat):Nv M (es++[e])=pm (Nv M es) e.1 e.2:=by unfold Nv;rw[yY];rfl
theorem ZR6(M:Ac):∀es:List (Nat×Nat),(Nv M es).length=M.length:=by
 intro es;unfold Nv
 induction es generalizing M with
 |nil=>rfl
 |cons e l ih=>rw[yQ,ih,Pc]
theorem dU{i:Int}(h0:0<=i):Xe xs none (some i)=xs.take i.toNat:=by
 have e:HT.Vr xs.length xs.length (some i)=min i.toNat xs.length:=by show(if i<0 then (i+(xs.length:Int)).toNat else min i.toNat xs.length)=_;rw[if_neg J]
 unfold Xe;rw[e,HT.VU,uU,MY];by_cases h:i.toNat<=xs.length
 .rw[EV h]
 .rw[JG J,YO<|XJ _,YO uD]
def Wi(m:Nat):Ac:=(List.range m).map λ(i:Nat)=>(i:Int)
theorem Xq{z:Int}:z∈Wi m↔0<=z/\z<(m:Int):=by
 unfold Wi;rw[Yz];constructor
 .rintro⟨i,hi,rfl⟩
  have:=YK.mp hi
  lia
 .intro h;exact⟨z.toNat,YK.mpr J,J⟩
theorem ZI(m:Nat):(Wi m).length=m:=by unfold Wi;simp
theorem QM(m:Nat):(Wi m).Pairwise (·<·):=by unfold Wi;rw[LI];exact Fi.imp λh=>uD
theorem xB(m:Nat):IsSet m (Wi m):=XX.mpr ⟨λz hz=>Xq.mp hz,QM m⟩
theorem p7(m:Nat):WT 0 (m:Int)=Wi m:=by unfold WT Wi;rw[GF,YA];exact VW λi _=>J
def CS(n:Int)(ps:Aa):Prop:=∀i j,i<n.toNat->j<n.toNat->Conn (XR ps<|Wi ps.length) i j
end My
namespace L2
open PySem PySem.Spec PyProof.Rows
section
variable{prog:Program}{w:World}{A:Around}{E:Ae}{s:Shared}
theorem Zd6{r:Addr}{a b c:Int}{t u v:Tok}{n:Nat}{Q:List Value->Shared->Prop}(hh:A.handled=none)(hr:IsRange s.heap r a b c t u v)(hm:Builtin.Range.small a b c=true)(hn:Builtin.Range.rangeSize a b c=n)(hl:n<=2^24)
  (k:∀h' tk acc,(∀b o,s.heap.get? b=some o->h'.get? b=some o)->ItemsOf (λi v=>∃t,v=.int (a+i*c) t) acc n->Q acc.toList {s with heap:=h',toks:=tk}):wpAny (model prog w) A (collect<|.ref r) Q E s:=by
 have II:(s.heap.push<|seqObj "list" #[] 0).get? s.heap.objs.size=some (seqObj "list" #[] 0):=Yk _ rfl;unfold collect;refine XU (yJ<|RP uQ ?_);show wpAny _ A.in1 (do again (.builtin "list.__iadd__" ⟨[<-newList [],.ref r],[]⟩)) _ _ s
 refine XU (JP<|Ym ⟨yT _ B,RP entry_list_iadd' ?_⟩);show wpAny _ A.in1 (Builtin.List.listExtendWith (.ref s.heap.objs.size) (.ref r)<|.ref s.heap.objs.size) _ _ {s with heap:=s.heap.push (seqObj "list" #[] 0)}
 refine SK (wpAny_extend_range (A:=A) (R:=λx s'=>∃h' tk acc c',x=.ok (.ret<|.ref s.heap.objs.size)/\s'={s with heap:=h',toks:=tk}/\(∀b o,s.heap.get? b=some o->h'.get? b=some o)/\
   h'.get? s.heap.objs.size=some {cls:=.type "list",dict:=none,data:=.seq acc c',slots:=#[]}/\ItemsOf (λi v=>∃t,v=.int (a+i*c) t) acc n)
  (s:={s with heap:=s.heap.push (seqObj "list" #[] 0)}) hh (Xc _ hr) hm hn hl _ _ 0 II λh' tk acc c' k1 k2 k3=>⟨h',tk,acc,c',Z,Z,λb o e=>k1 b o (YB<|Yq e)<|Xc _ e,k2,k3⟩) (λfin s' z=>?_) (λe s' z=>?_)
 .cases fin with
  |done f=>
   obtain⟨h',tk,acc,c',e,rfl,k1,k2,k3⟩:=z;cases e;refine XU (EG k2 ?_);exact Ym (k h' tk acc k1 k3)
  |again c'=>
   refine⟨z.1,Ly z.2 λx s2 z=>?_⟩;obtain⟨h',tk,acc,c',rfl,rfl,k1,k2,k3⟩:=z;refine XU (EG k2 ?_);exact Ym (k h' tk acc k1 k3)
 .obtain⟨h',tk,acc,c',e,_⟩:=z;cases e
theorem p6{r:Addr}{a b c:Int}{t u v:Tok}{n:Nat}(hm:Builtin.Range.small a b c=true)(hn:Builtin.Range.rangeSize a b c=n)(hl:n<=2^24):
  Meets (Builtin.«tuple.__new__» ⟨[.type "tuple",.ref r],[]⟩) (λA R s=>A.handled=none/\IsRange s.heap r a b c t u v/\∀(h':Heap)(tk:Nat)(acc:Array Value),(∀b o,s.heap.get? b=some o->h'.get? b=some o)->ItemsOf (λi v=>∃t,v=.int (a+i*c) t) acc n->
   R (.ok<|.ret<|.ref h'.objs.size) {s with heap:=h'.push<|seqObj "tuple" acc 0,toks:=tk}):=
 .of_wp λprog w A R s h=>by
  obtain⟨hh,hr,h⟩:=h;have e1:=sub_tuple_self
  have e2:=init_tuple_lookup;have e3:=madeHere_tuple
  have hT:s.TypeIs (.ref r) "range":=⟨_,hr,Z⟩;have CQ:A.in1.handled=none:=hh
  wp_walk using EL hT,Zd6 CQ hr hm hn hl
  intro h' tk acc hk VS;show wpAny _ _ (Builtin.Tuple.tupleExact acc.toList.toArray >>= ret) _ _ _
  unfold Builtin.Tuple.tupleExact;have e:acc.toList.toArray=acc:=S
  rw[e];refine XU (Qr ?_<|by show acc.size<=sizeLine;rwa[VS.1,TF]);exact Ym ⟨_,Z,h h' tk acc hk VS⟩
theorem ZZ2{r:Addr}{a b c:Int}{t u v:Tok}{n:Nat}{Q:Ae}(hh:A.handled=none)(hr:IsRange s.heap r a b c t u v)(hm:Builtin.Range.small a b c=true)(hn:Builtin.Range.rangeSize a b c=n)(hl:n<=2^24)
  (k:∀(h':Heap)(tk:Nat)(acc:Array Value),(∀b o,s.heap.get? b=some o->h'.get? b=some o)->ItemsOf (λi v=>∃t,v=.int (a+i*c) t) acc n->Q (.ref h'.objs.size) {s with heap:=h'.push<|seqObj "tuple" acc 0,toks:=tk}):wpAny (model prog w) A (call (.type "tuple") [.ref r]) Q E s:=
 callType_new F.called_tuple uB (F.typeCall_tuple_1 _) (F.newCall_tuple_1 _) (λo=>F.args_object_init_2 o _) F.entry_tuple_new (p6 (t:=t) (u:=u) (v:=v) hm hn hl)
  ⟨hh,hr,λh' tk acc hk VS=>⟨⟨_,Yk _ Z,Z⟩,k h' tk acc hk VS⟩⟩
end
section
variable{X:Cx}
theorem ZI3(hc:X.calm=true):Vx X (.type "tuple") (λxs H Q=>∃p lo hi,xs=[.ref p]/\H p=some (.rng lo hi)/\(-(2^62)<=lo/\lo<2^62/\-(2^62)<=hi/\hi<2^62)/\(hi-lo).toNat<=16777216/\
  ∀l,H l=none->Q (.ref l) (upd H l<|.tup<|(WT lo hi).map V.int)):=by
 intro pins s σ H xs us Q I r h;obtain⟨p,lo,hi,rfl,hp,⟨b1,b2,b3,b4⟩,hz,q⟩:=h;obtain⟨u,rfl,ru⟩:=WL r;obtain rfl:u=Value.ref p:=ru;obtain⟨t,u,v,e⟩:=(show ObjOk X.prog X.w H s.heap p (.rng lo hi) from I.hok p _ hp);have hn:Builtin.Range.rangeSize lo hi 1=(((hi-lo).toNat:Nat):Int):=by rw[rangeSize_one];split<;>grind
 refine ZZ2 (I.ok.hd hc) (t:=t) (u:=u) (v:=v) e (small_one b1 b2 b3 b4) hn hz λh' tk acc hk ha=>?_;have hl:acc.toList.length=(hi-lo).toNat:=by rw[YE];exact ha.1
 have rv:Vals ((WT lo hi).map V.int) acc.toList:=eZ (lo:=lo) hl λj w ew=>by obtain⟨t,e⟩:=ha.2 j w (by simpa using ew);exact⟨t,by rw[e,Na]⟩
 have I1:Inv X pins σ H {s with heap:=h',toks:=tk}:=I.kept (t':=tk) hk;have IE:((WT lo hi).map V.int).length<=sizeLine:=by
  rw[Yb,rp]
  have:sizeLine=16777216:=TF
  lia
 have I2:Inv X pins σ (upd H h'.objs.size<|.tup<|(WT lo hi).map V.int) {s with heap:=h'.push<|seqObj "tuple" acc.toList.toArray 0,toks:=tk}:=
  I1.laid (t':=tk) (λb o e=>Xc _ e) (XJ _) (show ObjOk X.prog X.w _ _ _ (.tup<|(WT lo hi).map V.int) from⟨IE,acc.toList,rv,IsTup.new _ _⟩)
 have ea:acc.toList.toArray=acc:=S;rw[ea]at I2;exact⟨.ref h'.objs.size,_,I2,Z,q _<|I1.hok.fresh<|XJ _⟩
end
end L2
namespace My
open PySem L2
def QL(n:Nat)(ps:Aa)(G:Ac)(z:Int):Ac:=if mk (Xb n<|XR ps G) (Zx ps z).1=mk (Xb n<|XR ps G) (Zx ps z).2 then G else G++[z]
def WM(n:Nat)(ps:Aa)(zs:Ac):Ac:=zs.foldl (QL n ps) []
theorem KP(n:Nat)(ps:Aa)(zs:Ac)(z:Int):WM n ps (zs++[z])=QL n ps (WM n ps zs) z:=by unfold WM;rw[yY];rfl
theorem xA(n:Nat)(ps:Aa)(zs:Ac):∀ys,∃us,WM n ps (zs++ys)=WM n ps zs++us/\us.Sublist ys:=by
 refine ME ⟨[],S⟩ λys y ih=>?_;obtain⟨us,e,s⟩:=ih;rw[<-Wd,KP,e];unfold QL;split
 .exact⟨us,Z,s.trans<|gu _ _⟩
 .exact⟨us++[y],by rw[Wd],s.append<|List.Sublist.refl _⟩
theorem xy(n:Nat)(ps:Aa)(zs:Ac):(WM n ps zs).Sublist zs:=by obtain⟨us,e,s⟩:=xA n ps [] zs;rw[Ng]at e;rwa[e]
theorem p0(h:∀z∈zs,0<=z/\z<(ps.length:Int)):∀z∈WM n ps zs,0<=z/\z<(ps.length:Int):=λz hz=>h z ((xy n ps zs).subset hz)
theorem QK(g:Zz n ps)(h:∀z∈zs,0<=z/\z<(ps.length:Int)):InN n.toNat (XR ps (WM n.toNat ps zs)):=ZO g (p0 h)
theorem xx(g:Zz n ps):∀zs:Ac,(∀z∈zs,0<=z/\z<(ps.length:Int))->cnt (Xb n.toNat (XR ps (WM n.toNat ps zs)))+(WM n.toNat ps zs).length=n.toNat:=by
 refine ME (λ_=>qt n.toNat) λzs z ih h=>?_;have h1:∀z∈zs,0<=z/\z<(ps.length:Int):=λy hy=>h y (Yd _ hy)
 have ih:=ih h1;obtain⟨z0,z1⟩:=h z (Yi _<|XG.mpr Z);have he:=Th (z:=z) g z0 z1
 have hl:=ZB n.toNat (XR ps<|WM n.toNat ps zs);rw[KP];unfold QL;split
 .exact ih
 .rename_i h;rw[IG,Nx,Xu,Yu]
  have:=xJ (m:=Xb n.toNat<|XR ps<|WM n.toNat ps zs) J J h
  grind
theorem dS(g:Zz n ps)(h:∀z∈zs,0<=z/\z<(ps.length:Int)):(WM n.toNat ps zs).length<=14:=by
 have:=xx g zs h
 have:=g.2.1
 lia
theorem pZ(g:Zz n ps):∀zs:Ac,(∀z∈zs,0<=z/\z<(ps.length:Int))->∀{i j:Nat},Conn (XR ps zs) i j->Conn (XR ps (WM n.toNat ps zs)) i j:=by
 refine ME (λ_ _ _ c=>c) λzs z IH h i j c=>?_;have h1:∀z∈zs,0<=z/\z<(ps.length:Int):=λy hy=>h y (Yd _ hy)
 obtain⟨z0,z1⟩:=h z (Yi _<|XG.mpr Z);have he:=Th (z:=z) g z0 z1
 have up:∀{a b:Nat},Conn (XR ps<|WM n.toNat ps zs) a b->Conn (XR ps<|WM n.toNat ps<|zs++[z]) a b:=λc=>by
  rw[KP];unfold QL;split
  .exact c
  .exact c.mono (ZN λy hy=>Yd _ hy)
 have own:Conn (XR ps<|WM n.toNat ps<|zs++[z]) (Zx ps z).1 (Zx ps z).2:=by
  rw[KP];unfold QL;split
  .rename_i e;exact(ZV (QK g h1) he.1 he.2).mp e
  .rw[IG];exact .edge (Yi _<|XG.mpr Z)
 induction c with
 |refl i=>exact .refl i
 |symm _ ih=>exact .symm ih
 |trans _ _ i1 i2=>exact .trans i1 i2
 |@edge a b e=>
  rw[IG]at e;rcases XE.mp e with e|e
  .exact up (IH h1<|.edge e)
  .have e:=XG.mp e;have ea:a=(Zx ps z).1:=Xy Prod.fst e
   have eb:b=(Zx ps z).2:=Xy Prod.snd e;rwa[ea,eb]
end My
namespace PyProof.Rows
open PySem
abbrev dK:Keyed:=(Value.none,Value.none)
section
variable{O:KeyOrd}{key:Keyed->O.α}{kd:SortKind}
def RK(O:KeyOrd)(key:Keyed->O.α)(x y:Keyed):Prop:=O.kle (key x) (key y)
abbrev LoS:=Option (Array Keyed)×Array Keyed×Nat×Nat×Nat×Nat×Nat
abbrev HiS:=Option (Array Keyed)×Nat×Nat×Array Keyed×Nat×Nat×Nat
def CO:List (List Keyed)->Nat->List (Nat×Nat)
 |[],_=>[]
 |g::gs,o=>(o,g.length)::CO gs (o+g.length)
structure PI(O:KeyOrd)(key:Keyed->O.α)(kd:SortKind)(a₀:Array Keyed)(st:SortSt)(ID:List (List Keyed))(rest:List Keyed):Prop where
 kind:kindOf st=kd
 fail:failedOf st=none
 perm:(arrOf st).Perm a₀
 arr:(arrOf st).toList=ID.flatten++rest
 srt:∀g∈ID,1<=g.length/\g.Pairwise (RK O key)
 pend:(pendingOf st).toList.map (λp=>(p.1,p.2.1))=CO ID 0
end
end PyProof.Rows
namespace L2
open PySem PySem.Spec PyProof.Rows
section
def sameBut(a:Addr)(h h':Heap):Prop:=∀b o,b≠a->h.get? b=some o->h'.get? b=some o
end
end L2
namespace My
open PySem L2
abbrev VP(a b:Ac):Prop:=HT.lexLt a b=true
theorem pY:∀p a b,HT.lexLt (p++a) (p++b)=HT.lexLt a b
 |[],a,b=>rfl
 |x::p,a,b=>by rw[GK,GK,HT.Xl,if_pos Z,pY p]
theorem dR:∀{s t:Ac}(a b:Ac),s.length=t.length->HT.lexLt s t=true->HT.lexLt (s++a) (t++b)=true
 |[],[],a,b,_,h=>by cases h
 |[],_::_,a,b,e,_=>by simp at e
 |_::_,[],a,b,e,_=>by simp at e
 |x::s,y::t,a,b,e,h=>by
  rw[HT.Xl]at h;rw[GK,GK,HT.Xl];split
  .rename_i q;rw[if_pos q]at h;exact dR a b (by simpa using e) h
  .rename_i q;rwa[if_neg q]at h
theorem CN(h:VP a b):a≠b:=λe=>by subst e;have:=FZ a;rw[h]at this;cases this
theorem ZN8(h:VP a b)(k:VP b a):False:=CN (xC h k) rfl
theorem pX(m:Int):∀k,∀l∈OV m k,l.length=k
 |0,l,h=>by rw[XG.mp h];rfl
 |k+1,l,h=>by obtain⟨s,hs,hl⟩:=List.mem_flatMap.mp h;obtain⟨t,_,_,rfl⟩:=Wm.mp hl;rw[Xu,pX m k s hs];rfl
theorem KO(m:Int):∀k,(OV m k).Pairwise VP
 |0=>NR ..
 |k+1=>by
  show((OV m k).flatMap (UR m)).Pairwise VP;rw[List.pairwise_flatMap];refine⟨λs _=>?_,gp (λ{s t} hs ht Vb=>?_)<|KO m k⟩
  .unfold UR;rw[LI];refine Fi.imp λ{i j} Um=>?_;show HT.lexLt _ _=true
   rw[pY,HT.Xl,if_neg J];exact Yp J
  .intro x hx y hy;obtain⟨u,_,_,rfl⟩:=Wm.mp hx;obtain⟨v,_,_,rfl⟩:=Wm.mp hy;exact dR _ _ (by rw[pX m k s hs,pX m k t ht]) Vb
theorem IC{α:Type}[DecidableEq α]:∀{l m:List α},l.Nodup->(∀x∈l,x∈m)->l.length<=m.length
 |[],m,_,_=>Yj _
 |x::l,m,h,hs=>by
  obtain⟨h1,h2⟩:=RQ.mp h;have hx:=hs x Xd
  have:=IC (l:=l) (m:=m.erase x) h2 λy hy=>(vt λ(e:y=x)=>h1<|e▸hy).mpr (hs y<|Yf _ hy)
  rw[JI hx]at this
  have:=Fh hx
  rw[Yt];grind
theorem CM(g:Zz n ps)(hT:Zf n ps T)(z0:0<=z)(z1:z<(ps.length:Int)):Conn (XR ps (Ti n ps T z T)) (Zx ps z).1 (Zx ps z).2:=by
 have he:=Th (z:=z) g z0 z1;have key:∀D:Ac,(∀o∈D,o∈T/\z∉US n ps T o)->Conn (XR ps<|T.filter λy=>decide<|y∉D) (Zx ps z).1 (Zx ps z).2:=by
  intro D
  induction D with
  |nil=>
   intro _;have e:(T.filter λy=>decide<|y∉([]:Ac))=T:=y7.mpr λy _=>S
   rw[e];exact hT.2.2 _ _ he.1 he.2
  |cons o D ih=>
   intro hD;have c:=ih λy hy=>hD y (Yf _ hy)
   obtain⟨xw,yy⟩:=hD o Xd;by_cases yg:o∈D
   .refine c.mono (ZN λy hy=>?_);obtain⟨h1,h2⟩:=Yh.mp hy;have h2:=Yr h2
    exact Yh.mpr ⟨h1,Yp λh=>(Yg.mp h).elim (λe=>h2<|e▸yg) h2⟩
   .refine Yx λVi=>?_;have CL:∀y,y∈(T.filter λy=>decide<|y∉o::D)->y∈wo T o:=λy hy=>by
     obtain⟨h1,h2⟩:=Yh.mp hy;have h2:=Yr h2
     exact Xg.mpr ⟨h1,λe=>h2<|by rw[e];exact Xd⟩
    have c2:Conn (XR ps<|(T.filter λy=>decide<|y∉o::D)++[o]) (Zx ps z).1 (Zx ps z).2:=(TX λy=>by
     rw[XE,Yh,Yh,XG];simp only[LJ,Yg,not_or];constructor
     .rintro⟨h1,h2⟩;by_cases e:y=o
      .exact .inr e
      .exact .inl ⟨h1,e,h2⟩
     .rintro(⟨h1,_,h2⟩|e)
      .exact⟨h1,h2⟩
      .rw[e];exact⟨xw,yg⟩).mp c
    have Wg:∀y∈(T.filter λy=>decide<|y∉o::D),0<=y/\y<(ps.length:Int):=λy hy=>hT.1.all y (Yh.mp hy).1;obtain⟨o0,o1⟩:=hT.1.all o xw;have WE:InN n.toNat (XR ps<|T.filter λy=>decide<|y∉o::D):=ZO g Wg
    have pW:InN n.toNat (XR ps<|(T.filter λy=>decide<|y∉o::D)++[o]):=ZO g λy hy=>by
     rcases XE.mp hy with h|h
     .exact Wg y h
     .rw[XG.mp h];exact⟨o0,o1⟩
    have Ga:=Th (z:=o) g o0 o1;have hl:=ZB n.toNat (XR ps<|T.filter λy=>decide<|y∉o::D)
    have own:¬Conn (XR ps<|wo T o) (Zx ps o).1 (Zx ps o).2:=(Vo g hT o0 o1).mp ((CU g hT xw xw).mpr Z);have cw:Conn (XR ps<|wo T o) (Zx ps z).1 (Zx ps z).2:=Yx λh=>yy ((Vo g hT z0 z1).mpr h)
    have up:∀{i j:Nat},i<n.toNat->j<n.toNat->mk (Xb n.toNat<|XR ps<|T.filter λy=>decide<|y∉o::D) i=mk (Xb n.toNat<|XR ps<|T.filter λy=>decide<|y∉o::D) j->Conn (XR ps<|wo T o) i j:=λhi hj e=>((ZV WE hi hj).mp e).mono (ZN CL);have m:=(ZV pW he.1 he.2).mpr c2
    rw[IG,Nx,Dn J J]at m;rcases m with m|⟨m1,m2⟩
    .exact Vi ((ZV WE he.1 he.2).mp m)
    .rcases m1 with m1|m1<;>rcases m2 with m2|m2
     .exact Vi ((ZV WE he.1 he.2).mp (m1.trans m2.symm))
     .exact own (((up he.1 Ga.1 m1).symm.trans cw).trans (up he.2 Ga.2 m2))
     .exact own (((up he.2 Ga.1 m2).symm.trans cw.symm).trans (up he.1 Ga.2 m1))
     .exact Vi ((ZV WE he.1 he.2).mp (m1.trans m2.symm))
 have c:=key (T.filter λy=>decide<|z∉US n ps T y) λo ho=>by obtain⟨h1,h2⟩:=Yh.mp ho;exact⟨h1,Yr h2⟩
 refine c.mono (ZN λy hy=>?_);obtain⟨h1,h2⟩:=Yh.mp hy;have h2:=Yr h2
 exact VC.mpr ⟨h1,Yx λh=>h2<|Yh.mpr ⟨h1,Yp h⟩⟩
theorem CK{a b:Ac}(ha:a.Pairwise (·<·))(hb:b.Pairwise (·<·))(h:∀z,z∈a↔z∈b):a=b:=
 (CT ha hb λz hz=>(h z).mp hz).eq_of_length (ve (CT ha hb λz hz=>(h z).mp hz).length_le (CT hb ha λz hz=>(h z).mpr hz).length_le)
theorem xu{i:Int}(h0:0<=i):Xe xs (some i) none=xs.drop i.toNat:=by
 have e:HT.Vr xs.length 0 (some i)=min i.toNat xs.length:=by show(if i<0 then (i+(xs.length:Int)).toNat else min i.toNat xs.length)=_;rw[if_neg J]
 unfold Xe;rw[e,HT.VU,YO (by rw[Wt];exact XJ _)];by_cases h:i.toNat<=xs.length
 .rw[EV h]
 .rw[JG J,LL<|XJ _,LL uD]
def cutz{α:Type}(l:List α)(z:Int):List α:=l.take z.toNat++l.drop (z.toNat+1)
theorem pV{z:Int}(h0:0<=z):Xe xs none (some z)++Xe xs (some (z+1)) none=cutz xs z:=by rw[dU h0,xu J,show(z+1).toNat=z.toNat+1 by lia];rfl
theorem pU{α:Type}(l:List α)(z:Int):(cutz l z).length<=l.length:=by unfold cutz;rw[Xu,Yn,Wt];grind
def dn(lo hi i:Int):Int:=if i=hi then lo else if i<hi then i else i-1
theorem pT{n i:Nat}(h:i<n):(Wi n)[i]?=some (i:Int):=by unfold Wi;rw[Yl,Rh h];rfl
theorem dQ(i:Nat):Wi (i+1)=Wi i++[(i:Int)]:=by unfold Wi;rw[PH,YG];rfl
end My
namespace L2
open PySem PySem.Spec PyProof.Rows
theorem Wl{N a b:St->Hp->Prop}{r:VK}{σ:St}{H:Hp}(h:N σ H):Ends.nx {nx:=N,rt:=r,bk:=a,ct:=b} σ H:=h
theorem pS{if1 if2 rest:TS}{D:Ends}{σ:St}{H:Hp}(P:St->Hp->Prop)(h1:∀σ' H',P σ' H'->rest D σ' H')(h2:∀K:St->Hp->Prop,(∀σ' H',P σ' H'->K σ' H')->if1 {D with nx:=if2 {D with nx:=K} } σ H):Vc if1 (Vc if2 rest) D σ H:=h2 _ h1
end L2
namespace My
theorem CJ{α:Type}{l:List α}(h:l.length=1):∃a,l=[a]:=by
 cases l with
 |nil=>cases h
 |cons a l=>cases l with
  |nil=>exact⟨a,Z⟩
  |cons b l=>simp at h
theorem CI{α:Type}{l:List α}(h:l.length=2):∃a b,l=[a,b]:=by
 cases l with
 |nil=>cases h
 |cons a l=>
  obtain⟨b,rfl⟩:=CJ (Nc h);exact⟨a,b,Z⟩
theorem CH{α:Type}{l:List α}(h:l.length=3):∃a b c,l=[a,b,c]:=by
 cases l with
 |nil=>cases h
 |cons a l=>
  obtain⟨b,c,rfl⟩:=CI (Nc h);exact⟨a,b,c,Z⟩
theorem CG{α:Type}{l:List α}(h:l.length=4):∃a b c d,l=[a,b,c,d]:=by
 cases l with
 |nil=>cases h
 |cons a l=>
  obtain⟨b,c,d,rfl⟩:=CH (Nc h);exact⟨a,b,c,d,Z⟩
end My
namespace My
open PySem L2
theorem TV{l:Ac}{f:Int->Bool}{y:Int}(h:l[i]?=some y):(l.take (i+1)).filter f=(l.take i).filter f++(if f y=true then [y] else []):=by
 rw[YJ,h,Qs];congr 1;by_cases e:f y=true
 .rw[if_pos e];show List.filter _ [y]=_;rw[YT,if_pos e];rfl
 .rw[if_neg e];show List.filter _ [y]=_;rw[YT,if_neg e];rfl
end My
namespace L2
open PySem PySem.Spec PyProof.Rows
section
variable{X:Cx}
inductive rCatQ(x:V)(y:V)(H:Hp)(Q:VK):Prop
 |mk (a b xs ys:_) (_:x=.ref a) (_:y=.ref b) (_:H a=some (.tup xs)) (_:H b=some (.tup ys)) (_:xs.length+ys.length<=sizeLine) (_:∀r H',Same H H'->H' r=some (.tup<|xs++ys)->Q (.ref r) H')
theorem pR(K:Ad)(hk:X.K=K:=by rfl):WH X (binaryOp .Add) rCatQ:=by
 intro pins s σ H x y v u Q I rx ry h;obtain⟨a,b,xs,ys,e1,e2,ha,hb,hz,q⟩:=h;refine OX K hk pins s σ H x y v u Q I rx ry ⟨a,b,xs,ys,e1,e2,SqT.of ha,SqT.of hb,hz,λhx=>?_,λ_ hy=>?_,λ_ _ p hp=>q p _ (My.XZ hp) XS⟩
 .subst hx;exact q b H (Same.refl H) hb
 .subst hy;exact q a H (Same.refl H) (by rwa[YI])
end
end L2
namespace My
open PySem L2
theorem Conn.lift(h:∀e∈es,Conn fs e.1 e.2)(c:Conn es i j):Conn fs i j:=by
 induction c with
 |refl i=>exact .refl i
 |edge e=>exact h _ e
 |symm _ ih=>exact ih.symm
 |trans _ _ OU Sz=>exact OU.trans Sz
theorem pQ(g:Zz n ps)(hT:Zf n ps T)(hW:Zf n ps W)(hz:z∈T)(hzW:z∉W):∃y,exg n ps T z y/\exg n ps W y z:=by
 obtain⟨z0,z1⟩:=hT.1.all z hz;refine Yx λVi=>?_;refine(Vo g hT z0 z1).mp ((CU g hT hz hz).mpr Z) ((CM g hW z0 z1).lift λe he=>?_);unfold XR at he;obtain⟨y,hy,rfl⟩:=Yz.mp he;obtain⟨pP,hyc⟩:=VC.mp hy;obtain⟨y0,y1⟩:=hW.1.all y pP;have dP:y≠z:=λe=>hzW (e▸pP)
 have:=(Vo (o:=z) g hT y0 y1)
 exact Yx λh=>Vi ⟨y,⟨hz,dP,this.mpr h⟩,⟨pP,XI dP,hyc⟩⟩
theorem pO(l:Ac):∃m:Ac,m.Perm l/\m.Pairwise (·<=·):=by
 induction l with
 |nil=>exact⟨[],.refl _,.nil⟩
 |cons x l ih=>
  obtain⟨m,h1,h2⟩:=ih;have key:∀m:Ac,m.Pairwise (·<=·)->∃k:Ac,k.Perm (x::m)/\k.Pairwise (·<=·):=by
   intro m
   induction m with
   |nil=>intro _;exact⟨[x],.refl _,NR _ _⟩
   |cons y m Sz=>
    intro hp;obtain⟨hy,hm⟩:=QP.mp hp;by_cases KN:x<=y
    .refine⟨x::y::m,.refl _,QP.mpr ⟨λz hz=>?_,hp⟩⟩;rcases Yg.mp hz with e|e
     .rw[e];exact KN
     .exact GD KN (hy z e)
    .obtain⟨k,k1,k2⟩:=Sz hm;refine⟨y::k,(k1.cons y).trans (List.Perm.swap x y m),QP.mpr ⟨λz hz=>?_,k2⟩⟩;rcases Yg.mp (k1.mem_iff.mp hz) with e|e
     .rw[e];lia
     .exact hy z e
  obtain⟨k,k1,k2⟩:=key m h2;exact⟨k,k1.trans<|h1.cons x,k2⟩
theorem pN(s:SameP M N):cnt M=cnt N:=by
 unfold cnt Vp;rw[<-s.1];refine Xy List.length (LH λp hp=>?_);have hp:=YK.mp hp
 rw[Qq,Xz,Xz];constructor
 .intro h i hi e;exact h i hi ((s.2 i p J hp).mpr e)
 .intro h i hi e;exact h i hi ((s.2 i p J hp).mp e)
theorem dO(g:Zz n ps)(hU:Zf n ps U):∀V:Ac,V.Nodup->(∀z∈V,z∈U)->WM n.toNat ps V=V:=by
 refine ME (λ_ _=>rfl) λV z ih hn hs=>?_;have Rb:=YM.mp hn
 have hV:∀y∈V,y∈U:=λy hy=>hs y (Yd _ hy);have hz:z∈U:=hs z (Yi _<|XG.mpr Z)
 have hzV:z∉V:=λh=>Rb.2.2 z h z (XG.mpr Z) rfl;obtain⟨z0,z1⟩:=hU.1.all z hz;have he:=Th (z:=z) g z0 z1
 rw[KP,ih Rb.1 hV];unfold QL;rw[if_neg];intro e;have c:=(ZV (ZO g λy hy=>hU.1.all y<|hV y hy) he.1 he.2).mp e
 exact(Vo g hU z0 z1).mp ((CU g hU hz hz).mpr Z) (c.mono<|ZN λy hy=>Xg.mpr ⟨hV y hy,λe'=>hzV<|by rwa[<-e']⟩)
theorem pM{as bs:Ac}(g:Zz n ps)(h:∀y∈as,0<=y/\y<(ps.length:Int))(z0:0<=z)(z1:z<(ps.length:Int))(hz:z∉WM n.toNat ps (as++z::bs)):Conn (XR ps (WM n.toNat ps as)) (Zx ps z).1 (Zx ps z).2:=by
 obtain⟨us,e,_⟩:=xA n.toNat ps (as++[z]) bs;rw[Wd]at e;have e:WM n.toNat ps (as++z::bs)=WM n.toNat ps (as++[z])++us:=e
 rw[e,KP]at hz;have he:=Th (z:=z) g z0 z1
 refine(ZV (QK g h) he.1 he.2).mp (Yx λXH=>hz ?_);unfold QL;rw[if_neg XH];exact Yd _ (Yi _<|XG.mpr Z)
theorem pL{as bs:Ac}{y:Int}(h:y∈WM n ps as):y∈WM n ps (as++bs):=by obtain⟨us,e,_⟩:=xA n ps as bs;rw[e];exact Yd _ h
theorem dN{α:Type}(p:α->Bool)(l:List α):(l.filter p).length+(l.filter λx=>!p x).length=l.length:=by
 induction l with
 |nil=>rfl
 |cons x l ih=>
  rw[YT,YT];cases p x with
  |true=>simp only[NL,Bool.not_true,Fc,Sr,Yt];lia
  |false=>simp only[Bool.not_false,NL,Fc,Sr,Yt];lia
def Fr(n:Nat)(ps:Aa)(l:Ac):Bool:=decide (WM n ps l=l)
def TB(n:Nat)(ps:Aa)(k:Nat):Ab:=(OV (ps.length:Int) k).filter (Fr n ps)
theorem pK(g:Zz n ps):l∈TB n.toNat ps (n-1).toNat↔Zf n ps l:=by
 unfold TB;rw[Yh,VQ];have g1:=g.1
 constructor
 .rintro⟨⟨h1,h2⟩,h3⟩;have e:WM n.toNat ps l=l:=Yr h3
  have c:=xx g l h2.all;rw[e]at c;exact⟨h2,J,(KS uE<|ZO g h2.all).mp uE⟩
 .intro h;exact⟨⟨by have:=h.2.1;lia,h.1⟩,Yp<|dO g h l h.1.nodup λz hz=>hz⟩
theorem MA(hT:Zf n ps T):T.Pairwise (·<·):=(XX.mp hT.1).2
theorem UQ{a:Ac}(h:a.Pairwise (·<=·))(hn:a.Nodup):a.Pairwise (·<·):=(h.and hn).imp λh=>by have:=h.1;have:=h.2;lia
theorem pJ(g:Zz n ps):∀zs:Ac,(∀z∈zs,0<=z/\z<(ps.length:Int))->(WM n.toNat ps zs).Nodup:=by
 refine ME (λ_=>List.Pairwise.nil) λzs z ih hb=>?_;have TZ:∀y∈zs,0<=y/\y<(ps.length:Int):=λy hy=>hb y (Yd _ hy)
 obtain⟨z0,z1⟩:=hb z (Yi _<|XG.mpr Z);have he:=Th (z:=z) g z0 z1
 rw[KP];unfold QL;split
 .exact ih TZ
 .next XH=>
  refine YM.mpr ⟨ih TZ,S,λa ha b pI e=>?_⟩;rw[XG.mp pI]at e;subst e;refine XH ((ZV (QK g TZ) he.1 he.2).mpr (.edge ?_));exact Yz.mpr ⟨a,ha,Z⟩
theorem pH(g:Zz n ps)(hb:∀z∈zs,0<=z/\z<(ps.length:Int))(hl:¬((WM n.toNat ps zs).length:Int)<n-1)(Vh:ms.Perm (WM n.toNat ps zs))(OW:ms.Pairwise (·<=·)):Zf n ps ms:=by
 have g1:=g.1;have h2:=xx g zs hb
 have h3:=qp (M:=Xb n.toNat<|XR ps<|WM n.toNat ps zs) (by rw[ZB];grind);have OT:=(KS uE<|QK g hb).mp uE
 refine⟨XX.mpr ⟨λz hz=>hb z<|(xy _ _ _).subset (Vh.mem_iff.mp hz),UQ OW<|Vh.nodup_iff.mpr<|pJ g zs hb⟩,by rw[Vh.length_eq];grind,λi j hi hj=>?_⟩;exact(TX λy=>Vh.mem_iff).mpr (OT i j hi hj)
theorem pG{I os U:Ac}(g:Zz n ps)(hU:Zf n ps U)(hI:I.Nodup)(pF:∀z∈I,z∈U)(pE:∀z∈U,z∈I++os)(hb:∀z∈I++os,0<=z/\z<(ps.length:Int)):(WM n.toNat ps (I++os)).take I.length=I/\¬((WM n.toNat ps (I++os)).length:Int)<n-1:=by
 have g1:=g.1;obtain⟨us,e,_⟩:=xA n.toNat ps I os;rw[dO g hU I hI pF]at e;refine⟨by rw[e,List.take_left],?_⟩;have OT:∀i j,i<n.toNat->j<n.toNat->Conn (XR ps<|WM n.toNat ps<|I++os) i j:=λi j hi hj=>pZ g _ hb ((hU.2.2 i j hi hj).mono (ZN pE))
 have h1:=(KS J<|QK g hb).mpr OT;have h2:=xx g (I++os) hb
 grind
theorem FY{p r:Ac}{x:Int}(h:(p++x::r).Pairwise (·<·)):(∀z∈p,z<x)/\∀z∈x::r,x<=z:=by
 have a:=PN.mp h;refine⟨λz hz=>a.2.2 z hz x Xd,λz hz=>?_⟩;rcases Yg.mp hz with h|h
 .rw[h];exact Lw _
 .exact GC ((QP.mp a.2.1).1 z h)
theorem Zr7{I os U F:Ac}(g:Zz n ps)(hU:Zf n ps U)(pF:∀z∈I,z∈U)(pE:∀z∈U,z∈I++os)(hb:∀z∈I++os,0<=z/\z<(ps.length:Int))(ho:os.Pairwise (·<·))(hF:Zf n ps F)(hf:F.Perm (WM n.toNat ps (I++os)))(hIF:∀z∈I,z∈F):HT.lexLt U F=false:=by
 cases RH:HT.lexLt U F with
 |false=>rfl
 |true=>
  exfalso;obtain⟨p,x,y,r,s,eU,ef,KN⟩:=qb (by have:=hF.2.1;have:=hU.2.1;lia) RH
  have IB:x∈U:=by rw[eU];exact Yi _ Xd
  obtain⟨x0,x1⟩:=hU.1.all x IB;have aU:=FY (eU▸MA hU)
  have aF:=FY (ef▸MA hF);have pD:x∉F:=λh=>by
   rw[ef]at h;rcases XE.mp h with h|h
   .have:=aU.1 x h
    lia
   .have:=aF.2 x h
    lia
  have hxI:x∉I:=λh=>pD (hIF x h);have hxo:x∈os:=(XE.mp<|pE x IB).resolve_left hxI
  obtain⟨as,bs,eo⟩:=List.append_of_mem hxo;have ao:=FY (eo▸ho)
  have TZ:∀z∈I++as,0<=z/\z<(ps.length:Int):=λz hz=>hb z ((XE.mp hz).elim (λh=>Yd _ h) λh=>Yi _<|by rw[eo];exact Yd _ h);have hxG:x∉WM n.toNat ps ((I++as)++x::bs):=by rw[Wd,<-eo];exact λh=>pD (hf.mem_iff.mpr h)
  have c:=pM g TZ x0 x1 hxG;refine(Vo g hU x0 x1).mp ((CU g hU IB IB).mpr Z) (c.mono<|ZN λz hz=>?_);have FX:z∈F:=hf.mem_iff.mpr (by
   have:=pL (bs:=x::bs) hz
   rwa[Wd,<-eo]at this)
  have hzx:z≠x:=λe=>pD (e▸FX);refine Xg.mpr ⟨?_,hzx⟩;rcases XE.mp ((xy _ _ _).subset hz) with h|h
  .exact pF z h
  .have h1:=ao.1 z h;rw[ef]at FX;rcases XE.mp FX with h|h
   .rw[eU];exact Yd _ h
   .have:=aF.2 z h
    lia
def With(n:Int)(ps:Aa)(I O U:Ac):Prop:=Zf n ps U/\(∀z∈I,z∈U)/\∀z∈O,z∉U
theorem With.sub{I O U os:Ac}(h:With n ps I O U)(ho:∀z,z∈os↔(0<=z/\z<(ps.length:Int))/\z∉O):∀z∈U,z∈I++os:=λz hz=>Yi _ ((ho z).mpr ⟨h.1.1.all z hz,λh2=>h.2.2 z h2 hz⟩)
end My
namespace L2
open PySem PySem.Spec PyProof.Rows
def OS(K:Ad)(a:Addr)(m:Nat):It:=
 ⟨λi H=>i<m/\∃xs x,SqL K H a xs/\xs[m-1-i]?=some x,λi H x H'=>H'=H/\∀xs,SqL K H a xs->xs[m-1-i]?=some x,λi _=>i=m⟩
def OR(K:Ad)(a:Addr)(m:Nat):It:=
 ⟨λi H=>i<m/\m<2^62/\∃xs x,SqT K H a xs/\xs[m-1-i]?=some x,λi H x H'=>H'=H/\∀xs,SqT K H a xs->xs[m-1-i]?=some x,λi _=>i=m⟩
theorem Ze8{P:Program}{w:World}{K:Ad}{tg:Expr}(a it:Addr)(m:Nat):Turn P w K tg (OS K a m) [it] it (λi h=>h.IsRevIter it a ((m:Int)-1-(i:Int))) where
 mem:=S
 obj:=λi h st b hb=>by
  have e:b=it:=by simpa using hb
  subst e;obtain⟨o,e,c,d⟩:=st;exact⟨o,e,λv z=>by rw[d]at z;cases z⟩
 keep:=λi h h' st k=>st.at λo e=>k it S o e
 item:=by
  intro X hP hw hK hc i pins s σ H E I hf st hg;subst hP hw hK;obtain⟨him,xs,x,hq,hx⟩:=hg;obtain⟨XT,rv,p,hz⟩:=I.list hq;obtain⟨u,hu,ru⟩:=rv.get hx;obtain⟨f0,f1,f2,f3,f4,f5⟩:=hf it S;rw[show(m:Int)-1-(i:Int)=((m-1-i:Nat):Int) by grind]at st;refine wpAny_pyNext_rev_item st p.isList (x:=u) (by simpa using hu) λh' VD sb=>?_;rw[show((m-1-i:Nat):Int)-1=(m:Int)-1-((i+1:Nat):Int) by grind]at VD;have I1:Inv X pins σ H {s with heap:=h'}:=I.turned (t':=s.toks) (λb o hb e=>(sb.2 b hb).trans e) f0 f1 f3 f4 f5
  obtain⟨o,e,c,d⟩:=id VD;exact⟨u,Z,QZ (s:={s with heap:=h'}) e c d uB ⟨x,H,I1,ru,⟨Z,λys hy=>by rwa[I.list_inj hy hq]⟩,VD,λb hb=>(hf b hb).1⟩⟩
 done:=by intro X hP hw hK hc i pins s σ H E I hf st hg;subst hP hw hK;obtain rfl:i=m:=hg;rw[show(i:Int)-1-(i:Int)=-1 by lia]at st;obtain⟨f0,f1,f2,f3,f4,f5⟩:=hf it S;exact wpAny_pyNext_rev_end (I.ok.hd hc) st λh' eb=>⟨Z,I.turned (t':=s.toks) (λb o hb e=>eb b o hb e) f0 f1 f3 f4 f5⟩
 self:=λ_ _ _ _ _ st h=>vm st h
theorem Zd8{P:Program}{w:World}{K:Ad}{tg:Expr}(a it:Addr)(m:Nat):Turn P w K tg (OR K a m) [it] it (λi h=>IsRv h it a ((m:Int)-1-(i:Int))) where
 mem:=S
 obj:=λi h st b hb=>by
  have e:b=it:=by simpa using hb
  subst e;obtain⟨o,e,c,d⟩:=st;exact⟨o,e,λv z=>by rw[d]at z;cases z⟩
 keep:=λi h h' st k=>st.keep λo e=>k it S o e
 item:=by
  intro X hP hw hK hc i pins s σ H E I hf st hg;subst hP hw hK;obtain⟨him,hm62,xs,x,hq,hx⟩:=hg;obtain⟨XT,rv,p,hz⟩:=I.tuple hq;obtain⟨u,hu,ru⟩:=rv.get hx;obtain⟨f0,f1,f2,f3,f4,f5⟩:=hf it S;rw[show(m:Int)-1-(i:Int)=((m-1-i:Nat):Int) by omega]at st;refine qh st p (x:=u) (by simpa using hu) uD λh' tk VD sb=>?_;rw[show((m-1-i:Nat):Int)-1=(m:Int)-1-((i+1:Nat):Int) by omega]at VD;have I1:Inv X pins σ H {s with heap:=h',toks:=tk}:=I.turned (t':=tk) (λb o hb e=>(sb.2 b hb).trans e) f0 f1 f3 f4 f5
  obtain⟨o,e,c,d⟩:=id VD;exact⟨u,Z,QZ (s:={s with heap:=h',toks:=tk}) e c d uB ⟨x,H,I1,ru,⟨Z,λys hy=>by rwa[I.tuple_inj hy hq]⟩,VD,λb hb=>(hf b hb).1⟩⟩
 done:=by intro X hP hw hK hc i pins s σ H E I hf st hg;subst hP hw hK;obtain rfl:i=m:=hg;rw[show(i:Int)-1-(i:Int)=-1 by omega]at st;obtain⟨f0,f1,f2,f3,f4,f5⟩:=hf it S;exact qg (I.ok.hd hc) st λh' eb=>⟨Z,I.turned (t':=s.toks) (λb o hb e=>eb b o hb e) f0 f1 f3 f4 f5⟩
 self:=λ_ _ _ _ _ st h=>dX st h
def pC(K:Ad)(ta:TA):TI:=λσ H R=>ta σ H λvs H1=>∃a,vs=[.ref a]/\((∃xs,SqL K H1 a xs/\R (OS K a xs.length) H1)\/∃xs,SqT K H1 a xs/\R (OR K a xs.length) H1)
section
variable{X:Cx}
theorem pB(K:Ad){p pos:Pos}(hg:Gl X "reversed")(hm:X.mg "reversed"=none)(ha:PA X [a] ta)(hs:starEach [a] X.env=[(false,eval a X.env)]:=by rfl)(hk:X.K=K:=by rfl):
  PI X tg (.Call (.Name "reversed" p) [a] [] pos) (pC K ta):=by
 subst hk;intro pins s σ H R I h;refine Call_ (Ra I hg hm Boot.«reversed»<|Ug (thn (ha pos pins s σ H _ I h) λus s1 Xv=>?_) hs Z);obtain⟨vs,H1,I1,r1,q1⟩:=Xv;obtain⟨b,e,q⟩:=q1;subst e;obtain⟨u,rfl,ru⟩:=WL r1;obtain rfl:u=Value.ref b:=ru;rcases q with ⟨xs,hq,q⟩|⟨xs,hq,q⟩
 .obtain⟨XT,rv,pl,hz⟩:=I1.list hq;have el:XT.toArray.size=xs.length:=by rw[Yc,<-rv.length]
  refine call_reversed_list pl.isList ?_;have hit:(s1.heap.push<|revObj b<|(XT.toArray.size:Int)-1).IsRevIter s1.heap.objs.size b ((XT.toArray.size:Int)-1):=⟨_,Yk _ Z,Z,Z⟩
  refine vm (s:={s1 with heap:=s1.heap.push (revObj b<|(XT.toArray.size:Int)-1)}) hit ?_;refine⟨s1.heap.objs.size,[s1.heap.objs.size],_,_,H1,Z,I1.kept (t':=s1.toks) λb o e=>Xc _ e,Ze8 b _ xs.length,?_,λc hc=>?_,q⟩
  .rw[el]at hit;show Heap.IsRevIter _ _ _ _
   rwa[show(xs.length:Int)-1-((0:Nat):Int)=(xs.length:Int)-1 by lia,el]
  .have e:c=s1.heap.objs.size:=by simpa using hc
   subst e;exact I1.fpOk (XJ _) (I1.hok.fresh<|XJ _)
 .obtain⟨XT,rv,pl,hz⟩:=I1.tuple hq;have el:XT.toArray.size=xs.length:=by rw[Yc,<-rv.length]
  have xt:sizeLine=16777216:=TF;refine qi pl J λdM h1 hit UR xr=>?_;refine dX (s:={s1 with heap:=h1,toks:=dM}) hit ?_;refine⟨s1.heap.objs.size,[s1.heap.objs.size],_,_,H1,Z,I1.kept (t':=dM) UR,Zd8 b _ xs.length,?_,λc hc=>?_,q⟩
  .rw[el]at hit;show IsRv _ _ _ _
   rwa[show(xs.length:Int)-1-((0:Nat):Int)=(xs.length:Int)-1 by lia]
  .have e:c=s1.heap.objs.size:=by simpa using hc
   subst e;exact I1.fpOk (XJ _) (I1.hok.fresh<|XJ _)
end
end L2
namespace My
open PySem L2
theorem pz{g:TG}{tb:TS}{D:Ends}(h62:xs.length<2^62)(Pv:Nat->St->Hp->Prop)(h0:Pv 0 σ H)(hl:∀i σ H,i<=xs.length->Pv i σ H->SqK k K H a xs)
  (hs:∀i x σ H,xs[xs.length-1-i]?=some x->i<xs.length->Pv i σ H->g x σ H λσ2 H2=>tb {D with nx:=Pv<|i+1,ct:=Pv<|i+1,bk:=D.nx} σ2 H2)(hd:∀σ H,Pv xs.length σ H->D.nx σ H):
  ((∃xs,SqL K H a xs/\∃W:Nat->Nat->St->Hp->Prop,(∃m,W 0 m σ H)/\∀i m σ H,W i m σ H->
   ((OS K a xs.length).stop i H/\D.nx σ H)\/((OS K a xs.length).go i H/\∃N:St->Hp->Prop,(∀σ' H',N σ' H'->∃m',m'<m/\W (i+1) m' σ' H')/\∀x H',(OS K a xs.length).yld i H x H'->g x σ H' λσ2 H2=>tb {D with nx:=N,ct:=N,bk:=D.nx} σ2 H2))\/
  (∃xs,SqT K H a xs/\∃W:Nat->Nat->St->Hp->Prop,(∃m,W 0 m σ H)/\∀i m σ H,W i m σ H->
   ((OR K a xs.length).stop i H/\D.nx σ H)\/((OR K a xs.length).go i H/\∃N:St->Hp->Prop,(∀σ' H',N σ' H'->∃m',m'<m/\W (i+1) m' σ' H')/\∀x H',(OR K a xs.length).yld i H x H'->g x σ H' λσ2 H2=>tb {D with nx:=N,ct:=N,bk:=D.nx} σ2 H2))):=by
 cases k with
 |false=>
  refine .inl ⟨xs,hl 0 σ H (Yj _) h0,λi m σ H=>m=xs.length-i/\i<=xs.length/\Pv i σ H,⟨xs.length,S,Yj _,h0⟩,?_⟩;rintro i m σ H ⟨rfl,hi,p⟩;have q:SqL K H a xs:=hl i σ H hi p
  by_cases Xn:i<xs.length
  .have hx:xs[xs.length-1-i]?=some (xs[xs.length-1-i]'(by omega)):=Xw uD;refine .inr ⟨⟨Xn,xs,_,q,hx⟩,Pv<|i+1,λσ' H' p'=>⟨xs.length-(i+1),uD,Z,Xn,p'⟩,λx H' zz=>?_⟩;obtain⟨eH,hy⟩:=zz;subst eH;exact hs i x σ H' (hy xs q) Xn p
  .have e:i=xs.length:=J;subst e;exact .inl ⟨Z,hd σ H p⟩
 |true=>
  refine .inr ⟨xs,hl 0 σ H (Yj _) h0,λi m σ H=>m=xs.length-i/\i<=xs.length/\Pv i σ H,⟨xs.length,S,Yj _,h0⟩,?_⟩;rintro i m σ H ⟨rfl,hi,p⟩;have q:SqT K H a xs:=hl i σ H hi p
  by_cases Xn:i<xs.length
  .have hx:xs[xs.length-1-i]?=some (xs[xs.length-1-i]'(by omega)):=Xw uD;refine .inr ⟨⟨Xn,h62,xs,_,q,hx⟩,Pv<|i+1,λσ' H' p'=>⟨xs.length-(i+1),uD,Z,Xn,p'⟩,λx H' zz=>?_⟩;obtain⟨eH,hy⟩:=zz;subst eH;exact hs i x σ H' (hy xs q) Xn p
  .have e:i=xs.length:=uD;subst e;exact .inl ⟨Z,hd σ H p⟩
def Dp(t:Int)(T U:Ac):Prop:=t∈T/\t∉U/\∀z,z<t->(z∈T↔z∈U)
theorem dJ{T:Ac}(h:T.Pairwise (·<·))(t:Int):T=T.filter (λz=>decide (z<t))++T.filter (λz=>decide (t<=z)):=by
 induction T with
 |nil=>rfl
 |cons x T ih=>
  obtain⟨h1,h2⟩:=QP.mp h;by_cases hx:x<t
  .rw[gh (by simp;lia),vE (by simp;omega),GK,<-ih h2]
  .rw[vE (by simp;lia),gh (by simp;omega)];have e1:T.filter (λz=>decide<|z<t)=[]:=f7.mpr λz hz=>by have:=h1 z hz;simp;lia
   have e2:T.filter (λz=>decide<|t<=z)=T:=y7.mpr λz hz=>by have:=h1 z hz;simp;omega
   rw[e1,e2];rfl
theorem CF(hT:Zf n ps T)(hU:Zf n ps U)(h:Dp t T U):VP T U:=by
 obtain⟨h1,h2,h3⟩:=h;have aT:=MA hT
 have aU:=MA hU;have eT:=dJ aT t
 have eU:=dJ aU t;have e0:T.filter (λz=>decide<|z<t)=U.filter (λz=>decide<|z<t):=CK (aT.filter _) (aU.filter _) λz=>by
  rw[Yh,Yh];constructor
  .rintro⟨a,b⟩;exact⟨(h3 z<|Yr b).mp a,b⟩
  .rintro⟨a,b⟩;exact⟨(h3 z<|Yr b).mpr a,b⟩
 have mT:t∈T.filter (λz=>decide<|t<=z):=Yh.mpr ⟨h1,S⟩;have hlen:T.length=U.length:=by have:=hT.2.1;have:=hU.2.1;lia
 rw[e0]at eT;have SD:(T.filter λz=>decide<|t<=z).length=(U.filter λz=>decide<|t<=z).length:=by
  have a:=Xy List.length eT;have b:=Xy List.length eU
  rw[Xu]at a b;lia
 have aT2:=aT.filter λz=>decide (t<=z);have mT2:∀z∈T.filter λz=>decide<|t<=z,t<=z:=λz hz=>Yr (Yh.mp hz).2
 have mU2:∀z∈U.filter λz=>decide<|t<=z,t<z:=λz hz=>by
  have a:=Yh.mp hz;have b:t<=z:=Yr a.2
  have c:z≠t:=λe=>h2 (e▸a.1);lia
 show HT.lexLt T U=true;have key:HT.lexLt (U.filter (λz=>decide<|z<t)++T.filter λz=>decide<|t<=z) (U.filter (λz=>decide<|z<t)++U.filter λz=>decide<|t<=z)=true:=by
  rw[pY];clear eT eU e0;generalize T.filter (λz=>decide<|t<=z)=A at *;generalize U.filter (λz=>decide<|t<=z)=uw at *;cases A with
  |nil=>cases mT
  |cons x A=>
   cases uw with
   |nil=>cases SD
   |cons y uw=>
    have hx:x=t:=by
     rcases Yg.mp mT with e|e
     .exact e.symm
     .have:=(QP.mp aT2).1 t e
      have:=mT2 x Xd
      grind
    have hy:=mU2 y Xd
    have:x<y:=J
    simp[HT.lexLt,this,Int.ne_of_lt this]
 rwa[<-eT,<-eU]at key
theorem KL(hT:Zf n ps T)(hU:Zf n ps U)(h:VP T U):∃t,Dp t T U:=by
 obtain⟨p,x,y,r,s,eT,eU,KN⟩:=qb (by have:=hT.2.1;have:=hU.2.1;omega) h;have aT:=FY (eT▸MA hT)
 have aU:=FY (eU▸MA hU);refine⟨x,by rw[eT];simp,λhx=>?_,λz hz=>?_⟩
 .rw[eU]at hx;rcases XE.mp hx with e|e
  .have:=aT.1 x e
   lia
  .have:=aU.2 x e
   lia
 .rw[eT,eU,XE,XE];constructor
  .rintro(e|e)
   .exact .inl e
   .have:=aT.2 z e
    lia
  .rintro(e|e)
   .exact .inl e
   .have:=aU.2 z e
    lia
def VH(l:Ac)(t:Int):Ac:=l.filter λz=>decide (z<t)
theorem WX{t z:Int}:z∈VH l t↔z∈l/\z<t:=by unfold VH;rw[Yh,LJ]
theorem pw(hT:Zf n ps T)(hD:∀z,z∈D↔(0<=z/\z<(ps.length:Int))/\z∉T)(ht:t∈T):With n ps (VH T t) (VH D t++[t]) U↔Zf n ps U/\Dp t T U:=by
 constructor
 .rintro⟨a,b,c⟩;refine⟨a,ht,c t S,λz hz=>⟨λh=>b z<|WX.mpr ⟨h,hz⟩,λh=>?_⟩⟩;by_cases IE:z∈T
  .exact IE
  .exact absurd h (c z<|Yd _<|WX.mpr ⟨(hD z).mpr ⟨a.1.all z h,IE⟩,hz⟩)
 .rintro⟨a,_,b,c⟩;refine⟨a,λz hz=>?_,λz hz h=>?_⟩
  .have:=WX.mp hz
   exact(c z this.2).mp this.1
  .rcases XE.mp hz with e|e
   .have:=WX.mp e
    exact((hD z).mp this.1).2 ((c z this.2).mpr h)
   .rw[XG.mp e]at h;exact b h
def dI(n:Int)(ps:Aa)(T F:Ac):Prop:=Zf n ps F/\VP T F/\∀U,Zf n ps U->VP T U->HT.lexLt U F=false
theorem Zh7(h:VP a b):HT.lexLt b a=false:=by
 cases e:HT.lexLt b a with
 |false=>rfl
 |true=>exact(ZN8 h e).elim
theorem pq(hT:Zf n ps T)(hD:∀z,z∈D↔(0<=z/\z<(ps.length:Int))/\z∉T)(ht:t∈T)(Vi:∀t'∈T,t<t'->∀U,Zf n ps U->¬Dp t' T U)
  (hF:With n ps (VH T t) (VH D t++[t]) F)(hl:∀U,With n ps (VH T t) (VH D t++[t]) U->HT.lexLt U F=false):dI n ps T F:=by
 have Sf:=(pw hT hD ht).mp hF;refine⟨Sf.1,CF hT Sf.1 Sf.2,λU hU RH=>?_⟩;obtain⟨t',hd⟩:=KL hT hU RH;rcases(by lia:t<t'\/t'=t\/t'<t) with e|e|e
 .exact(Vi t' hd.1 e U hU hd).elim
 .exact hl U ((pw hT hD ht).mpr ⟨hU,e▸hd⟩)
 .refine Zh7 (CF (t:=t') Sf.1 hU ⟨(Sf.2.2.2 t' e).mp hd.1,hd.2.1,λz hz=>?_⟩);rw[<-Sf.2.2.2 z J];exact hd.2.2 z hz
theorem pj(hT:Zf n ps T)(Vi:∀t'∈T,∀U,Zf n ps U->¬Dp t' T U):∀U,Zf n ps U->¬VP T U:=λU hU h=>by obtain⟨t,hd⟩:=KL hT hU h;exact Vi t hd.1 U hU hd
def TupN(H:Hp)(v:V)(o:Option Ac):Prop:=match o with|none=>v=.non|some l=>Wy H v l
theorem TupN.same(s:Same H H')(h:TupN H v o):TupN H' v o:=by
 cases o with
 |none=>exact h
 |some l=>
  obtain⟨a,e,h1⟩:=h;exact⟨a,e,s _ _ h1⟩
def CD(n:Int)(ps:Aa)(T:Ac)(o:Option Ac):Prop:=match o with|none=>∀U,Zf n ps U->¬VP T U|some F=>dI n ps T F
def TC(n:Int)(ps:Aa)(c:Nat):Prop:=∃L:Ab,L.Nodup/\(∀l,l∈L↔Zf n ps l)/\L.length=c
theorem TC.uniq(h1:TC n ps c)(h2:TC n ps d):c=d:=by obtain⟨L,a1,a2,rfl⟩:=h1;obtain⟨M,b1,b2,rfl⟩:=h2;exact((LM a1 b1).mpr λl=>by rw[a2,b2]).length_eq
theorem OQ:IsSet (m+1) (T++[(m:Int)])↔IsSet m T:=by
 constructor
 .intro h;have a:=XX.mp h
  have b:=PN.mp a.2;refine XX.mpr ⟨λz hz=>?_,b.1⟩;have c:=a.1 z (Yd _ hz)
  have d:=b.2.2 z hz m (XG.mpr Z);omega
 .exact λh=>h.snoc
theorem dH(h:IsSet (m+1) T):IsSet m T\/∃T',T=T'++[(m:Int)]/\IsSet m T':=by
 have a:=XX.mp h;by_cases hm:(m:Int)∈T
 .obtain⟨p,r,e⟩:=List.append_of_mem hm;have b:=FY (e▸a.2)
  cases r with
  |nil=>exact .inr ⟨p,e,OQ.mp<|e▸h⟩
  |cons y r=>
   have h1:=a.1 y (by rw[e];simp);have h2:=(QP.mp (PN.mp<|e▸a.2).2.1).1 y Xd
   omega
 .refine .inl (XX.mpr ⟨λz hz=>?_,a.2⟩);have h1:=a.1 z hz
  have h2:z≠(m:Int):=λe=>hm (e▸hz);lia
theorem dG{es:List (Nat×Nat)}{a b i j:Nat}(c:Conn (es++[(a,b)]) i j):Conn (es++[(b,a)]) i j:=c.lift λe he=>by
 rcases XE.mp he with q|q
 .exact .edge (Yd _ q)
 .rw[XG.mp q];exact .symm (.edge S)
end My
namespace L2
open PySem PySem.Spec PyProof.Rows
def FW(K:Ad)(a b:Addr):It:=
 ⟨λi H=>∃xs ys x y,SqL K H a xs/\SqL K H b ys/\xs[i]?=some x/\ys[i]?=some y,λi H v H'=>∃T x y,H T=none/\v=.ref T/\H'=upd H T (.tup [x,y])/\(∀xs,SqL K H a xs->xs[i]?=some x)/\∀ys,SqL K H b ys->ys[i]?=some y,
  λi H=>∃xs ys,SqL K H a xs/\SqL K H b ys/\(xs.length<=i\/ys.length<=i)⟩
theorem ph{P:Program}{w:World}{K:Ad}{elts:List Expr}{x1:Nat}{pos:Pos}(a b z TI TO i1 i2:Addr)(D:ZipApart z TI TO i1 i2 a b):
  Turn P w K (.Tuple elts x1 pos) (FW K a b) [z,TI,TO,i1,i2] z (λi h=>IsZip h z TI TO .none/\IsPair h TI (.ref i1) (.ref i2)/\(∃c d,IsPair h TO c d)/\h.IsListIter i1 a i/\h.IsListIter i2 b i) where
 mem:=S
 obj:=λi h st c hc=>by
  obtain⟨hz,OP,⟨u,v,Nu⟩,⟨o1,e1,_,d1⟩,⟨o2,e2,_,d2⟩⟩:=st;have WI:c=z\/c=TI\/c=TO\/c=i1\/c=i2:=by simpa using hc
  rcases WI with rfl|rfl|rfl|rfl|rfl
  .exact⟨_,hz,λv q=>by have q':Data.fields _=Data.cell v:=q;cases q'⟩
  .exact⟨_,OP,λv q=>by have q':Data.seq _ _=Data.cell v:=q;cases q'⟩
  .exact⟨_,Nu,λv q=>by have q':Data.seq _ _=Data.cell v:=q;cases q'⟩
  .exact⟨o1,e1,λv q=>by rw[d1]at q;cases q⟩
  .exact⟨o2,e2,λv q=>by rw[d2]at q;cases q⟩
 keep:=λi h h' st k=>by obtain⟨hz,OP,⟨u,v,Nu⟩,h1,h2⟩:=st;exact⟨k z S _ hz,k TI S _ OP,⟨u,v,k TO S _ Nu⟩,h1.at λo e=>k i1 S o e,h2.at λo e=>k i2 S o e⟩
 item:=by
  intro X hP hw hK hc i pins s σ H E I hf st hg;subst hP hw hK;obtain⟨xs,ys,x,y,hq,KJ,hx,hy⟩:=hg;obtain⟨hz,OP,⟨u0,v0,Nu⟩,h1,h2⟩:=st;obtain⟨XT,rv,p,_⟩:=I.list hq;obtain⟨u,hu,ru⟩:=rv.get hx;obtain⟨VT,xq,p2,_⟩:=I.list KJ;obtain⟨v,hv,pf⟩:=xq.get hy;have fz:=hf z S
  have QJ:=hf TO S;have QI:=hf i1 S
  have QH:=hf i2 S;have rn:H s.heap.objs.size=none:=I.hok.fresh (XJ _)
  refine wpAny_pyNext_zip_item D hz OP Nu h1 h2 p.isList p2.isList (x:=u) (y:=v) (by simpa using hu) (by simpa using hv) λh' a1 a2 a3 a4 a5 hsz hk=>?_;have NC:∀b ob,s.heap.get? b=some ob->b≠s.heap.objs.size:=λb ob z=>YB (Yq z)
  have Pj:∀b ob,H b=some ob->b≠s.heap.objs.size:=λb ob z=>YB (I.hok.lt z);have NB:∀c ob,H c=some ob->c≠z/\c≠TO/\c≠i1/\c≠i2:=λc ob q=>⟨λe=>(by rw[e,fz.1]at q;cases q),λe=>(by rw[e,QJ.1]at q;cases q),λe=>(by rw[e,QI.1]at q;cases q),λe=>(by rw[e,QH.1]at q;cases q)⟩
  have KI:∀c o,c∉[z,TO,i1,i2]->s.heap.get? c=some o->h'.get? c=some o:=λc o Wf q=>hk c o (λe=>Wf<|by simp[e]) (λe=>Wf<|by simp[e]) (λe=>Wf<|by simp[e]) (λe=>Wf<|by simp[e]) q;have I1:Inv X pins σ (upd H s.heap.objs.size<|.tup [x,y]) {s with heap:=h'}:=by
   refine I.step (g':=s.gens) (d':=s.drawn) (t':=s.toks) (ch:=[z,TO,i1,i2]) (λc hb=>?_) (λc o _ _ Wf q _=>KI c o Wf q) (λc o _ _ Wf q _=>⟨o.slots,KI c o Wf q⟩)
    (λc o _ q n=>by rwa[Zb (NC c o q)]) (λc o Wf q=>⟨o,KI c o Wf q⟩) (λc ys q=>by rwa[Zb (Pj c _ q)]) (λc o v q=>by rwa[Zb (Pj c _ q)])
    (λc ps q=>⟨#[],by rw[Zb (Pj c _ q),q];simp⟩) (λm hm=>?_) (λc v' q=>?_) I.bare
   .have WI:c=z\/c=TO\/c=i1\/c=i2:=by simpa using hb
    rcases WI with rfl|rfl|rfl|rfl
    .exact⟨fz.2.2.2.1,fz.2.1,fz.2.2.2.2.1,fz.2.2.2.2.2⟩
    .exact⟨QJ.2.2.2.1,QJ.2.1,QJ.2.2.2.2.1,QJ.2.2.2.2.2⟩
    .exact⟨QI.2.2.2.1,QI.2.1,QI.2.2.2.2.1,QI.2.2.2.2.2⟩
    .exact⟨QH.2.2.2.1,QH.2.1,QH.2.2.2.2.1,QH.2.2.2.2.2⟩
   .obtain⟨o,es,ep,Vj,r⟩:=hm;exact⟨o,es,ep,hk _ o (XI fz.2.1) (XI QJ.2.1) (XI QI.2.1) (XI QH.2.1) Vj,r⟩
   .by_cases hb:c=s.heap.objs.size
    .subst hb;rw[XS]at q;cases q;exact⟨by show 2<=sizeLine;decide,[u,v],.cons ru<|.cons pf .nil,⟨_,a5,Z,_,Z⟩⟩
    .rw[Zb hb]at q;refine(I.hok c v' q).stay (λe w' WI q'=>?_) (λe q=>by rwa[Zb (Pj e _ q)]) λe ys q=>by rwa[Zb (Pj e _ q)]
     rcases WI with rfl|WI
     .have:=NB e _ q
      exact hk e w' this.1 this.2.1 this.2.2.1 this.2.2.2 q'
     .have:=NB e _ WI
      exact hk e w' this.1 this.2.1 this.2.2.1 this.2.2.2 q'
  refine⟨_,Z,wpAny_letOwnedTupleGo_zip a1 λh2 IE To=>?_⟩;have fT:z≠s.heap.objs.size:=NC z _ hz
  have I2:Inv X pins σ (upd H s.heap.objs.size<|.tup [x,y]) {s with heap:=h2}:=Inv.turned (s:={s with heap:=h'}) (h':=h2) (t':=s.toks) (it:=z) I1 (λb o hb q=>To.extBut b o hb q) (by rw[Zb fT];exact fz.1) fz.2.1 fz.2.2.2.1 fz.2.2.2.2.1 fz.2.2.2.2.2;refine⟨.ref s.heap.objs.size,_,I2,Z,⟨_,x,y,rn,Z,Z,λys Je=>by rw[I.list_inj Je hq];exact hx,λys Je=>by rwa[I.list_inj Je KJ]⟩,
   ⟨IE,To.extBut _ _ D.TIz (KI _ _ (by have:=D.TIz;have:=D.TITO;have:=D.TIi1;have:=D.TIi2;simp;exact⟨D.TIz,D.TITO,D.TIi1,D.TIi2⟩) OP),⟨u,v,To.extBut _ _ D.TOz a2⟩,a3.at λo q=>To.extBut i1 o D.i1z q,a4.at λo q=>To.extBut i2 o D.i2z q⟩,λc hc=>?_⟩
  have WI:c=z\/c=TI\/c=TO\/c=i1\/c=i2:=by simpa using hc
  have hn:=(hf c hc).1;rcases WI with rfl|rfl|rfl|rfl|rfl
  .rw[Zb fT];exact hn
  .rw[Zb (NC _ _ OP)];exact hn
  .rw[Zb (NC _ _ Nu)];exact hn
  .obtain⟨o,eo,_⟩:=h1;rwa[Zb (NC _ o eo)]
  .obtain⟨o,eo,_⟩:=h2;rwa[Zb (NC _ o eo)]
 done:=by
  intro X hP hw hK hc i pins s σ H E I hf st hg;subst hP hw hK;obtain⟨xs,ys,hq,KJ,pe⟩:=hg;obtain⟨hz,OP,⟨u0,v0,Nu⟩,h1,h2⟩:=st;obtain⟨XT,rv,p,_⟩:=I.list hq;obtain⟨VT,xq,p2,_⟩:=I.list KJ;have l1:=rv.length
  have l2:=xq.length;have fz:=hf z S
  have QJ:=hf TO S;have QI:=hf i1 S
  have QH:=hf i2 S;refine wpAny_pyNext_zip_end (I.ok.hd hc) D hz OP Nu h1 h2 p.isList p2.isList (by
   rcases pe with e|e
   .exact .inl (by simp;lia)
   .exact .inr<|by simp;lia) λh' hk=>⟨Z,?_⟩
  have KI:∀c o,c∉[z,TO,i1,i2]->s.heap.get? c=some o->h'.get? c=some o:=λc o Wf q=>hk c o (λe=>Wf<|by simp[e]) (λe=>Wf<|by simp[e]) (λe=>Wf<|by simp[e]) (λe=>Wf<|by simp[e]) q;have NB:∀c ob,H c=some ob->c≠z/\c≠TO/\c≠i1/\c≠i2:=λc ob q=>⟨λe=>(by rw[e,fz.1]at q;cases q),λe=>(by rw[e,QJ.1]at q;cases q),λe=>(by rw[e,QI.1]at q;cases q),λe=>(by rw[e,QH.1]at q;cases q)⟩
  refine I.step (g':=s.gens) (d':=s.drawn) (t':=s.toks) (ch:=[z,TO,i1,i2]) (λc hb=>?_) (λc o _ _ Wf q _=>KI c o Wf q) (λc o _ _ Wf q _=>⟨o.slots,KI c o Wf q⟩)
   (λc o _ q n=>n) (λc o Wf q=>⟨o,KI c o Wf q⟩) (λc ys q=>q) (λc o v q=>q)
   (λc ps q=>⟨#[],by rw[q];simp⟩) (λm hm=>?_) (λc v' q=>?_) I.bare
  .have WI:c=z\/c=TO\/c=i1\/c=i2:=by simpa using hb
   rcases WI with rfl|rfl|rfl|rfl
   .exact⟨fz.2.2.2.1,fz.2.1,fz.2.2.2.2.1,fz.2.2.2.2.2⟩
   .exact⟨QJ.2.2.2.1,QJ.2.1,QJ.2.2.2.2.1,QJ.2.2.2.2.2⟩
   .exact⟨QI.2.2.2.1,QI.2.1,QI.2.2.2.2.1,QI.2.2.2.2.2⟩
   .exact⟨QH.2.2.2.1,QH.2.1,QH.2.2.2.2.1,QH.2.2.2.2.2⟩
  .obtain⟨o,es,ep,Vj,r⟩:=hm;exact⟨o,es,ep,hk _ o (XI fz.2.1) (XI QJ.2.1) (XI QI.2.1) (XI QH.2.1) Vj,r⟩
  .refine(I.hok c v' q).stay (λe w' WI q'=>?_) (λe q=>q) λe ys q=>q;rcases WI with rfl|WI
   .have:=NB e _ q
    exact hk e w' this.1 this.2.1 this.2.2.1 this.2.2.2 q'
   .have:=NB e _ WI
    exact hk e w' this.1 this.2.1 this.2.2.1 this.2.2.2 q'
 self:=λ_ _ _ _ _ st h=>wpAny_pyIter_zip st.1 h
def pd(K:Ad)(ta:TA):TI:=λσ H R=>ta σ H λvs H1=>∃a b,vs=[.ref a,.ref b]/\(∃xs ys,SqL K H1 a xs/\SqL K H1 b ys)/\R (FW K a b) H1
section
variable{X:Cx}
theorem CC(K:Ad){elts:List Expr}{x1:Nat}{So:Pos}{e f:Expr}{ta:TA}{p pos:Pos}(hg:Gl X "zip")(hm:X.mg "zip"=none)(ha:PA X [e,f] ta)(hs:starEach [e,f] X.env=(false,eval e X.env)::starEach [f] X.env:=by rfl)(UL:(backTo pos<|starEach [f] X.env).any (·.1)=false:=by rfl)(hk:X.K=K:=by rfl):
  PI X (.Tuple elts x1 So) (.Call (.Name "zip" p) [e,f] [] pos) (pd K ta):=by
 subst hk;intro pins s σ H R I h;refine Call_ (Ra I hg hm Boot.«zip»<|Ug (thn (ha pos pins s σ H _ I h) λus s1 Xv=>?_) hs UL);obtain⟨vs,H1,I1,r1,q1⟩:=Xv;obtain⟨a,b,ev,⟨xs,ys,hq,KJ⟩,q⟩:=q1;subst ev;obtain⟨u,u',rfl,ru,ru'⟩:=Pu r1;obtain rfl:u=Value.ref a:=ru;obtain rfl:u'=Value.ref b:=ru';obtain⟨XT,rv,pl,_⟩:=I1.list hq;obtain⟨VT,xq,dF,_⟩:=I1.list KJ;have lt1:a<s1.heap.objs.size:=by obtain⟨_,_,e,_⟩:=pl;exact Yq e
 have lt2:b<s1.heap.objs.size:=by obtain⟨_,_,e,_⟩:=dF;exact Yq e
 have D:ZipApart (s1.heap.objs.size+4) (s1.heap.objs.size+2) (s1.heap.objs.size+3) s1.heap.objs.size (s1.heap.objs.size+1) a b:=by
  have key:∀n x y:Nat,x<n->y<n->ZipApart (n+4) (n+2) (n+3) n (n+1) x y:=λn x y h1 h2=>by constructor<;>(intro q;have q':(_:Nat)=_:=q;lia)
  exact key _ _ _ lt1 lt2
 refine call_zip_2 pl.isList dF.isList λh' hz OP Nu o9 Wh hsz hk=>?_;refine wpAny_pyIter_zip (s:={s1 with heap:=h'}) hz ?_;refine⟨s1.heap.objs.size+4,[s1.heap.objs.size+4,s1.heap.objs.size+2,s1.heap.objs.size+3,s1.heap.objs.size,s1.heap.objs.size+1],_,_,H1,Z,I1.kept (t':=s1.toks) hk,ph a b _ _ _ _ _ D,⟨hz,OP,⟨_,_,Nu⟩,o9,Wh⟩,λc hc=>?_,q⟩;have hle:s1.heap.objs.size<=c:=by
  have WI:c=s1.heap.objs.size+4\/c=s1.heap.objs.size+2\/c=s1.heap.objs.size+3\/c=s1.heap.objs.size\/c=s1.heap.objs.size+1:=by simpa using hc
  rcases WI with e|e|e|e|e<;>rw[e]<;>first|exact XJ _|exact Nat.le_add_right _ _
 exact I1.fpOk hle (I1.hok.fresh hle)
end
end L2
namespace My
open PySem L2
section
variable{K:Ad}{a b:Addr}{xs ys:List V}{g:TG}{tt:TT}{te:TE}{o:Nat}{fr:List Nat}{σ:St}{H:Hp}{Q:VK}
theorem o8(Pv:Nat->List V->Hp->Prop)(h0:Pv 0 [] H)(KN:xs.length=ys.length)(hz:xs.length<sizeLine)(hl:∀i zs H,i<=xs.length->Pv i zs H->SqL K H a xs/\SqL K H b ys/\zs.length<=i)
  (hs:∀(i:Nat) x y zs H (p:Addr),H p=none->xs[i]?=some x->ys[i]?=some y->Pv i zs H->IV Pv g tt te o fr σ i (.ref p) zs (upd H p<|.tup [x,y]))(hd:∀zs H,Pv xs.length zs H->∀p,H p=none->Q (.ref p) (upd H p<|.lst zs)):MI (FW K a b) g tt te o fr σ H Q:=by
 refine⟨λi m zs H=>m=xs.length-i/\i<=xs.length/\Pv i zs H,⟨xs.length,S,Yj _,h0⟩,?_⟩;rintro i m zs H ⟨rfl,hi,p⟩;obtain⟨q,q2,hy⟩:=hl i zs H hi p;by_cases Xn:i<xs.length
 .refine .inr ⟨⟨xs,ys,xs[i],ys[i]'(by lia),q,q2,by simp[Xn],Xw uD⟩,J,λx H' ⟨T,u,v,hT,ex,eH,hu,hv⟩=>?_⟩;subst ex eH;exact hs i u v zs H T hT (hu xs q) (hv ys q2) p (λj zs H=>∃m',m'<xs.length-i/\m'=xs.length-j/\j<=xs.length/\Pv j zs H) λzs H p'=>⟨xs.length-(i+1),uE,Z,Xn,p'⟩
 .have e:i=xs.length:=J;subst e;exact .inl ⟨⟨xs,ys,q,q2,.inl<|XJ _⟩,J,hd zs H p⟩
end
end My
namespace My
abbrev Mx:=Nat->Nat->Int
def sm:Nat->(Nat->Int)->Int
 |0,_=>0
 |n+1,f=>sm n f+f n
theorem ZH{f g:Nat->Int}:∀{n:Nat},(∀i,i<n->f i=g i)->sm n f=sm n g
 |0,_=>rfl
 |n+1,h=>by show sm n f+f n=sm n g+g n;rw[ZH λi hi=>h i J,h n J]
theorem IA{f g:Nat->Int}:∀{n:Nat},sm n (λi=>f i+g i)=sm n f+sm n g
 |0=>rfl
 |n+1=>by show sm n (λi=>f i+g i)+(f n+g n)=sm n f+f n+(sm n g+g n);rw[IA];lia
theorem FV{c:Int}{f:Nat->Int}:∀{n:Nat},sm n (λi=>c*f i)=c*sm n f
 |0=>(RM c).symm
 |n+1=>by show sm n (λi=>c*f i)+c*f n=c*(sm n f+f n);rw[FV,Su]
theorem TU:∀{n:Nat},sm n (λ_=>0)=0
 |0=>rfl
 |n+1=>by show sm n (λ_=>0)+0=0;rw[TU];rfl
theorem Iz{f:Nat->Int}(h:∀i,i<n->f i=0):sm n f=0:=by rw[ZH h];exact TU
theorem CB{f:Nat->Int}:∀{n:Nat},sm (n+1) f=f 0+sm n (λi=>f (i+1))
 |0=>by show 0+f 0=f 0+0;lia
 |n+1=>by show sm (n+1) f+f (n+1)=f 0+(sm n (λi=>f<|i+1)+f (n+1));rw[CB];lia
theorem o7{f:Nat->Nat->Int}:∀{n:Nat},sm n (λi=>sm m (f i))=sm m (λj=>sm n λi=>f i j)
 |0=>TU.symm
 |n+1=>by show sm n (λi=>sm m<|f i)+sm m (f n)=sm m λj=>sm n (λi=>f i j)+f n j;rw[o7,IA]
def sk(j k:Nat):Nat:=if k<j then k else k+1
def mn(A:Mx)(j:Nat):Mx:=λi k=>A (i+1) (sk j k)
def sg(j:Nat):Int:=if j%2=0 then 1 else -1
theorem Mz(j:Nat):sg (j+1)=- sg j:=by
 unfold sg;by_cases h:j%2=0
 .rw[if_pos h,if_neg uD]
 .rw[if_neg h,if_pos J];rfl
def det:Nat->Mx->Int
 |0,_=>1
 |n+1,A=>sm (n+1) λj=>sg j*A 0 j*det n (mn A j)
theorem OO{j k n:Nat}(h:k<n):sk j k<n+1:=by unfold sk;split<;>lia
theorem Zn:∀{n:Nat}{A uw:Mx},(∀i j,i<n->j<n->A i j=uw i j)->det n A=det n uw
 |0,_,_,_=>rfl
 |n+1,A,uw,h=>ZH λj hj=>by rw[h 0 j J hj,Zn (A:=mn A j) (uw:=mn uw j) λi k hi hk=>h (i+1) (sk j k) J (OO hk)]
theorem Iy:∀{n:Nat}{A uw C:Mx}{c:Int}{i:Nat},i<n->(∀r j,r<n->j<n->r≠i->A r j=uw r j/\A r j=C r j)->(∀j,j<n->A i j=c*uw i j+C i j)->det n A=c*det n uw+det n C
 |0,_,_,_,_,_,hi,_,_=>absurd hi (Ws _)
 |n+1,A,uw,C,c,i,hi,h1,h2=>by
  show sm (n+1) (λj=>sg j*A 0 j*det n (mn A j))=c*sm (n+1) (λj=>sg j*uw 0 j*det n (mn uw j))+sm (n+1) λj=>sg j*C 0 j*det n (mn C j);rw[<-FV,<-IA];refine ZH λj hj=>?_;cases i with
  |zero=>
   have e1:det n (mn uw j)=det n (mn A j):=Zn λr k hr hk=>(h1 (r+1) (sk j k) uD (OO hk) J).1.symm;have e2:det n (mn C j)=det n (mn A j):=Zn λr k hr hk=>(h1 (r+1) (sk j k) J (OO hk) J).2.symm
   rw[e1,e2,h2 j hj];generalize det n (mn A j)=d;generalize sg j=s;rw[Su,yE,<-RO s c,Vd s c,RO c s,RO c]
  |succ i=>
   have e:=Iy (n:=n) (A:=mn A j) (uw:=mn uw j) (C:=mn C j) (c:=c) (i:=i) J (λr k hr hk XH=>h1 (r+1) (sk j k) J (OO hk) J) λk hk=>h2 (sk j k) (OO hk);have e0:=h1 0 j J hj J
   rw[e,<-e0.1,<-e0.2];generalize det n (mn uw j)=d;generalize det n (mn C j)=d';generalize sg j*A 0 j=s;rw[Su,<-RO,<-RO,Vd s c]
theorem o6(h:j<=k):mn (mn A j) k i l=mn (mn A (k+1)) j i l:=by
 show A (i+1+1) (sk j<|sk k l)=A (i+1+1) (sk (k+1)<|sk j l);refine Xy _ ?_;unfold sk;by_cases h1:l<j
 .rw[if_pos (show l<k by lia),if_pos h1,if_pos (show l<k+1 by lia)]
 .rw[if_neg h1];by_cases h2:l<k
  .rw[if_pos h2,if_neg h1,if_pos (show l+1<k+1 by lia)]
  .rw[if_neg h2,if_neg (show ¬l+1<j by lia),if_neg (show ¬l+1<k+1 by lia)]
theorem o5:∀{n:Nat}{A:Mx}{i:Nat},i+1<n->(∀j,j<n->A i j=A (i+1) j)->det n A=0
 |0,_,_,hi,_=>absurd hi (Ws _)
 |n+1,A,i+1,hi,h=>Iz λj hj=>by rw[o5 (A:=mn A j) (i:=i) J λk hk=>h (sk j k)<|OO hk,RM]
 |1,_,0,hi,_=>absurd hi uD
 |n+2,A,0,_,h=>by
  obtain⟨t,ht⟩:∃t:Nat->Nat->Int,t=λj k=>sg j*A 0 j*(sg k*A 1 (sk j k)*det n (mn (mn A j) k)):=⟨_,Z⟩;have e1:det (n+2) A=sm (n+2) λj=>sm (n+1) (t j):=ZH λj hj=>by rw[ht,FV];rfl
  have e2:∀j k,j<=k->k<n+1->t (k+1) j=- t j k:=λj k hjk hk=>by
   rw[ht];show sg (k+1)*A 0 (k+1)*(sg j*A 1 (sk (k+1) j)*det n (mn (mn A<|k+1) j))=- (sg j*A 0 j*(sg k*A 1 (sk j k)*det n (mn (mn A j) k)))
   have f1:sk (k+1) j=j:=by unfold sk;rw[if_pos J]
   have f2:sk j k=k+1:=by unfold sk;rw[if_neg J]
   have f3:det n (mn (mn A<|k+1) j)=det n (mn (mn A j) k):=Zn λi l _ _=>(o6 hjk).symm;rw[f1,f2,f3,Mz,<-h j J,<-h (k+1) J];generalize det n (mn (mn A j) k)=d;generalize A 0 j=x;generalize A 0 (k+1)=y;generalize sg j=s;generalize sg k=u;simp only[yG,Int.neg_inj];simp only[Vd,yX,RO]
  have e3:sm (n+2) (λj=>sm (n+1)<|t j)=sm (n+2) (λj=>sm (n+1) λk=>if k<j then t j k else 0)+sm (n+2) (λj=>sm (n+1) λk=>if k<j then 0 else t j k):=by rw[<-IA];refine ZH λj _=>?_;rw[<-IA];refine ZH λk _=>?_;split<;>lia
  have e4:sm (n+2) (λj=>sm (n+1) λk=>if k<j then t j k else 0)=sm (n+1) (λk=>sm (n+1) λj=>if k<=j then t (j+1) k else 0):=by
   rw[o7];refine ZH λk _=>?_;rw[CB,if_neg J,Lz];refine ZH λj _=>?_;by_cases c:k<=j
   .rw[if_pos c,if_pos uD]
   .rw[if_neg c,if_neg J]
  have e5:sm (n+2) (λj=>sm (n+1) λk=>if k<j then 0 else t j k)=sm (n+1) (λj=>sm (n+1) λk=>if j<=k then t j k else 0):=by
   show sm (n+1) (λj=>sm (n+1) λk=>if k<j then 0 else t j k)+sm (n+1) (λk=>if k<n+1 then 0 else t (n+1) k)=_;rw[Iz (f:=λk=>if k<n+1 then 0 else t (n+1) k) λk hk=>if_pos hk,Rm];refine ZH λj _=>ZH λk _=>?_;by_cases c:j<=k
   .rw[if_pos c,if_neg J]
   .rw[if_neg c,if_pos J]
  rw[e1,e3,e4,e5,<-IA];refine Iz λj hj=>?_;rw[<-IA];refine Iz λk hk=>?_;by_cases c:j<=k
  .rw[if_pos c,if_pos c,e2 j k c hk];lia
  .rw[if_neg c,if_neg c];rfl
def put2(A:Mx)(i:Nat)(x y:Nat->Int):Mx:=λr=>if r=i then x else if r=i+1 then y else A r
theorem o4{x x' y:Nat->Int}(hi:i+1<n):det n (put2 A i (λj=>x j+x' j) y)=det n (put2 A i x y)+det n (put2 A i x' y):=by
 have:=Iy (n:=n) (A:=put2 A i (λj=>x j+x' j) y) (uw:=put2 A i x y) (C:=put2 A i x' y) (c:=1) (i:=i) J (λr j _ _ XH=>by unfold put2;rw[if_neg XH,if_neg XH,if_neg XH];exact⟨Z,Z⟩) (λj _=>by unfold put2;rw[if_pos Z,if_pos Z,if_pos Z,Sv])
 rw[this,Sv]
theorem dE{x y y':Nat->Int}(hi:i+1<n):det n (put2 A i x λj=>y j+y' j)=det n (put2 A i x y)+det n (put2 A i x y'):=by
 have ne:¬i+1=i:=J
 have:=Iy (n:=n) (A:=put2 A i x λj=>y j+y' j) (uw:=put2 A i x y) (C:=put2 A i x y') (c:=1) (i:=i+1) J (λr j _ _ XH=>by unfold put2;rw[if_neg XH,if_neg XH,if_neg XH];exact⟨Z,Z⟩) (λj _=>by unfold put2;rw[if_neg ne,if_neg ne,if_neg ne,if_pos Z,if_pos Z,if_pos Z,Sv])
 rw[this,Sv]
theorem o3{x:Nat->Int}(hi:i+1<n):det n (put2 A i x x)=0:=o5 hi λj _=>by unfold put2;rw[if_pos Z,if_neg J,if_pos Z]
theorem oZ{x y:Nat->Int}(hi:i+1<n):det n (put2 A i y x)=- det n (put2 A i x y):=by have h:=o3 (A:=A) (x:=λj=>x j+y j) hi;rw[o4 hi,dE hi,dE hi,o3 hi,o3 hi]at h;lia
theorem oY:put2 A i (A i) (A (i+1))=A:=by
 funext r
 unfold put2;by_cases h:r=i
 .rw[if_pos h,h]
 .rw[if_neg h];by_cases h2:r=i+1
  .rw[if_pos h2,h2]
  .rw[if_neg h2]
theorem dD(hi:i+1<n):det n (put2 A i (A (i+1)) (A i))=- det n A:=by
 have:=oZ (A:=A) (x:=A i) (y:=A<|i+1) hi
 rwa[oY]at this
theorem xp:∀{d:Nat}{A:Mx},a+d+1<n->(∀j,j<n->A a j=A (a+d+1) j)->det n A=0
 |0,A,hn,h=>o5 hn h
 |d+1,A,hn,h=>by
  have e:=dD (n:=n) (A:=A) (i:=a+d+1) J;have z:det n (put2 A (a+d+1) (A<|a+d+1+1)<|A<|a+d+1)=0:=by refine xp (a:=a) (d:=d) J λj hj=>?_;unfold put2;rw[if_neg J,if_neg J,if_pos Z];exact h j hj
  lia
def rotN(k t i:Nat):Nat:=if i<k then i else if i=k then k+t else if i<=k+t then i-1 else i
theorem Zr8(k i:Nat):rotN k 0 i=i:=by
 unfold rotN;by_cases h:i<k
 .rw[if_pos h]
 .rw[if_neg h];by_cases h2:i=k
  .rw[if_pos h2,h2];rfl
  .rw[if_neg h2,if_neg J]
theorem oX:∀{t:Nat}{A:Mx},k+t<n->det n (λi=>A (rotN k t i))=sg t*det n A
 |0,A,_=>by rw[show sg 0=1 from Z,Sv];exact Zn λi j _ _=>by rw[Zr8]
 |t+1,A,h=>by
  have e:=oX (n:=n) (k:=k) (t:=t) (A:=put2 A (k+t) (A<|k+t+1)<|A<|k+t) J;rw[dD J]at e;have f:det n (λi=>A<|rotN k (t+1) i)=det n (λi=>put2 A (k+t) (A<|k+t+1) (A<|k+t)<|rotN k t i):=Zn λi j _ _=>by
   refine congrFun ?_ j;have r1:rotN k (t+1) i=if i<k then i else if i=k then k+(t+1) else if i<=k+(t+1) then i-1 else i:=rfl
   have r2:rotN k t i=if i<k then i else if i=k then k+t else if i<=k+t then i-1 else i:=rfl
   unfold put2;by_cases h1:i<k
   .rw[if_pos h1]at r1 r2;rw[r1,r2,if_neg J,if_neg J]
   .rw[if_neg h1]at r1 r2;by_cases h2:i=k
    .rw[if_pos h2]at r1 r2;rw[r1,r2,if_pos Z];rfl
    .rw[if_neg h2]at r1 r2;by_cases h3:i<=k+t
     .rw[if_pos J]at r1;rw[if_pos h3]at r2;rw[r1,r2,if_neg J,if_neg J]
     .rw[if_neg h3]at r2;by_cases h4:i=k+t+1
      .rw[if_pos J]at r1;rw[r1,r2,if_neg uE,if_pos h4];exact Xy A J
      .rw[if_neg J]at r1;rw[r1,r2,if_neg J,if_neg h4]
  rw[f,e,Mz,Int.mul_neg,yG]
theorem oW:∀{n:Nat}{A:Mx},(∀i,i<n+1->A i 0=0)->det (n+1) A=0
 |0,A,h=>by show 0+sg 0*A 0 0*1=0;rw[h 0 uD,RM];rfl
 |n+1,A,h=>Iz λj hj=>by
  cases j with
  |zero=>rw[h 0 J,RM,EO]
  |succ j=>
   rw[oW (A:=mn A<|j+1) λi hi=>?_,RM];show A (i+1) (sk (j+1) 0)=0
   rw[show sk (j+1) 0=0 from Z];exact h (i+1) J
theorem Zb9(h:∀i,i<n->A (i+1) 0=0):det (n+1) A=A 0 0*det n (λi j=>A (i+1) (j+1)):=by
 show sm (n+1) (λj=>sg j*A 0 j*det n (mn A j))=_;rw[CB,Iz λj hj=>?_]
 .rw[Rm,show sg 0=1 from Z,Sv];refine Xy (A 0 0 * ·) (Zn λi j _ _=>?_);rfl
 .cases n with
  |zero=>exact absurd hj (Ws _)
  |succ n=>
   rw[oW (A:=mn A<|j+1) λi hi=>?_,RM];exact h i hi
theorem dC{i:Nat}(hi:i<n)(h:∀j,j<n->A i j=0):det n A=0:=by
 have:=Iy (A:=A) (uw:=A) (C:=A) (c:=1) hi (λr j _ _ _=>⟨Z,Z⟩) (λj hj=>by rw[h j hj];rfl)
 grind
theorem dB{c:Int}:∀{n:Nat}{A:Mx},det n (λi j=>c*A i j)=c^n*det n A
 |0,_=>by show(1:Int)=c^0*1;rw[JO];rfl
 |n+1,A=>by
  show sm (n+1) (λj=>sg j*(c*A 0 j)*det n (mn (λi j=>c*A i j) j))=c^(n+1)*sm (n+1) λj=>sg j*A 0 j*det n (mn A j);rw[<-FV];refine ZH λj _=>?_;have e:det n (mn (λi j=>c*A i j) j)=c^n*det n (mn A j):=dB (A:=mn A j)
  rw[e,EN];generalize det n (mn A j)=d;generalize c^n=p;generalize sg j=s;generalize A 0 j=x;simp only[Vd,yX,RO]
def offN(R:Mx):Mx:=λi j=>R 0 0*R (i+1) (j+1)-R (i+1) 0*R 0 (j+1)
def WJ(R:Mx)(k:Nat):Mx:=λr j=>if r=0 then R 0 j else if r<=k then R 0 0*R r j-R r 0*R 0 j else R r j
theorem dz{m:Nat}:∀{k:Nat},k<m+1->det (m+1) (WJ R k)=R 0 0^k*det (m+1) R
 |0,_=>by
  rw[JO,Sv];refine Zn λi j _ _=>?_;unfold WJ;by_cases h:i=0
  .rw[if_pos h,h]
  .rw[if_neg h,if_neg J]
 |k+1,hk=>by
  have ih:=dz (m:=m) (R:=R) (k:=k) J;obtain⟨C,hC⟩:∃C:Mx,C=λr j=>if r=k+1 then-R (k+1) 0*R 0 j else WJ R k r j:=⟨_,Z⟩
  obtain⟨uw,hB⟩:∃uw:Mx,uw=λr j=>if r=k+1 then R 0 j else WJ R k r j:=⟨_,Z⟩
  obtain⟨uj,hZ⟩:∃uj:Mx,uj=λr j=>if r=k+1 then 0 else WJ R k r j:=⟨_,Z⟩
  have hBz:det (m+1) uw=0:=xp (n:=m+1) (a:=0) (d:=k) J λj hj=>by
   rw[hB];show(if 0=k+1 then _ else WJ R k 0 j)=if 0+k+1=k+1 then _ else _
   rw[if_neg J,if_pos J];rfl
  have hZz:det (m+1) uj=0:=dC (i:=k+1) hk λj hj=>by rw[hZ];exact if_pos rfl
  have hCz:det (m+1) C=0:=by
   have:=Iy (A:=C) (uw:=uw) (C:=uj) (c:=- R (k+1) 0) hk (λr j _ _ XH=>by
    rw[hC,hB,hZ];show(if r=k+1 then _ else WJ R k r j)=(if r=k+1 then _ else WJ R k r j)/\(if r=k+1 then _ else WJ R k r j)=(if r=k+1 then _ else WJ R k r j)
    rw[if_neg XH,if_neg XH,if_neg XH];exact⟨Z,Z⟩) (λj _=>by
    rw[hC,hB,hZ];show(if k+1=k+1 then _ else _)=_*(if k+1=k+1 then _ else _)+(if k+1=k+1 then _ else _)
    rw[if_pos Z,if_pos Z,if_pos Z,Rm])
   rw[this,hBz,hZz,RM];rfl
  have:=Iy (A:=WJ R<|k+1) (uw:=WJ R k) (C:=C) (c:=R 0 0) hk (λr j _ _ XH=>by
   have e1:WJ R (k+1) r j=WJ R k r j:=by
    unfold WJ;by_cases h0:r=0
    .rw[if_pos h0,if_pos h0]
    .rw[if_neg h0,if_neg h0];by_cases h1:r<=k
     .rw[if_pos h1,if_pos J]
     .rw[if_neg h1,if_neg J]
   refine⟨e1,?_⟩;rw[hC,e1];show _=if r=k+1 then _ else _
   rw[if_neg XH]) (λj _=>by
   have e1:WJ R (k+1) (k+1) j=R 0 0*R (k+1) j-R (k+1) 0*R 0 j:=by unfold WJ;rw[if_neg J,if_pos J]
   have e2:WJ R k (k+1) j=R (k+1) j:=by unfold WJ;rw[if_neg uD,if_neg J]
   rw[e1,e2,hC];show _=_+(if k+1=k+1 then-R (k+1) 0*R 0 j else _)
   rw[if_pos Z,yG]
   rfl)
  rw[this,hCz,ih,Rm,EN];rw[<-RO,Vd (R 0 0)]
theorem oV:R 0 0*det m (offN R)=R 0 0^m*det (m+1) R:=by
 rw[<-dz (k:=m) J,Zb9 λi hi=>?_]
 .have e0:WJ R m 0 0=R 0 0:=if_pos rfl;rw[e0];refine Xy (R 0 0 * ·) (Zn λi j hi hj=>?_);unfold WJ offN;rw[if_neg J,if_pos J]
 .unfold WJ;rw[if_neg J,if_pos J,Vd];lia
def ex(k:Nat)(r:Nat->Nat)(i:Nat):Nat:=if i<k then i else k+r (i-k)
def RG(A:Mx)(k M:Nat)(R:Mx)(last:Int):Prop:=last≠0/\∀m r c,(∀i,i<m+1->r i<M/\c i<M)->
 det (m+1) (λi j=>R (r i)<|c j)=det (k+m+1) (λi j=>A (ex k r i)<|ex k c j)*last^m
theorem Zf9(A:Mx)(n:Nat):RG A 0 n A 1:=⟨uB,λm r c _=>by rw[Int.one_pow,Na,LC];refine Zn λi j _ _=>?_;unfold ex;rw[if_neg (Ws _),if_neg<|Ws _,LC,LC,MY,MY]⟩
theorem Iw{p:Int}(h:p≠0):∀n:Nat,p^n≠0
 |0=>by rw[JO];decide
 |n+1=>by rw[EN];exact Int.mul_ne_zero (Iw h n) h
def ON(r:Nat->Nat):Nat->Nat
 |0=>0
 |i+1=>r i+1
theorem CA(k:Nat)(r:Nat->Nat)(i:Nat):ex k (ON r) i=ex (k+1) r i:=by
 unfold ex;by_cases h:i<k
 .rw[if_pos h,if_pos J]
 .rw[if_neg h];by_cases h2:i=k
  .rw[if_pos J,h2,Ve];rfl
  .rw[if_neg J];obtain⟨d,rfl⟩:∃d,i=k+d+1:=⟨i-k-1,uE⟩;rw[show k+d+1-k=d+1 by lia,show k+d+1-(k+1)=d by lia];show k+(r d+1)=k+1+r d
   lia
theorem KH{k M:Nat}(h:RG A k (M+1) R last)(hp:R 0 0≠0){m:Nat}{r c:Nat->Nat}(hb:∀i,i<m+1->r i<M/\c i<M):
  det (m+1) (λi j=>offN R (r i)<|c j)=R 0 0^m*(last^(m+1)*det (k+1+m+1) λi j=>A (ex (k+1) r i)<|ex (k+1) c j):=by
 have e1:=oV (m:=m+1) (R:=λi j=>R (ON r i)<|ON c j);have e2:=h.2 (m+1) (ON r) (ON c) λi hi=>by
  cases i with
  |zero=>exact⟨Nat.succ_pos _,Nat.succ_pos _⟩
  |succ i=>have:=hb i J;exact⟨Nat.succ_lt_succ this.1,Nat.succ_lt_succ this.2⟩
 have e3:det (m+1) (offN λi j=>R (ON r i)<|ON c j)=det (m+1) (λi j=>offN R (r i)<|c j):=rfl;have e4:det (k+(m+1)+1) (λi j=>A (ex k (ON r) i)<|ex k (ON c) j)=det (k+1+m+1) (λi j=>A (ex (k+1) r i)<|ex (k+1) c j):=by rw[show k+(m+1)+1=k+1+m+1 by lia];exact Zn λi j _ _=>by rw[CA,CA]
 rw[e3]at e1;rw[e4]at e2;have e5:R (ON r 0) (ON c 0)=R 0 0:=rfl
 rw[e5,e2]at e1;generalize det (m+1) (λi j=>offN R (r i)<|c j)=x at *;generalize det (k+1+m+1) (λi j=>A (ex (k+1) r i)<|ex (k+1) c j)=y at *;rw[EN]at e1;refine gB hp ?_;rw[e1,Vd y,Vd<|R 0 0^m,RO]
theorem oU(A:Mx):det 1 A=A 0 0:=by show 0+sg 0*A 0 0*1=A 0 0;rw[show sg 0=1 from Z];lia
theorem oS{k M:Nat}(h:RG A k (M+1) R last)(hp:R 0 0≠0)(hi:i<M)(hj:j<M):
  offN R i j=last*det (k+2) (λa b=>A (ex (k+1) (λ_=>i) a)<|ex (k+1) (λ_=>j) b):=by
 have:=KH h hp (m:=0) (r:=λ_=>i) (c:=λ_=>j) λ_ _=>⟨hi,hj⟩
 rwa[oU,JO,Sv,EN,JO,Sv]at this
theorem oR(h:RG A k (M+1) R last)(hp:R 0 0≠0)(hR:∀i j,i<M->j<M->R' i j=(offN R i j).fdiv last):RG A (k+1) M R' (R 0 0):=by
 refine⟨hp,λm r c hb=>?_⟩;have oQ:∀i j,i<M->j<M->offN R i j=last*R' i j:=λi j hi hj=>by rw[hR i j hi hj,oS h hp hi hj,Int.mul_fdiv_cancel_left _ h.1]
 have e1:=KH h hp hb;have e2:det (m+1) (λi j=>offN R (r i)<|c j)=last^(m+1)*det (m+1) (λi j=>R' (r i)<|c j):=by rw[<-dB];exact Zn λi j hi hj=>oQ _ _ (hb i hi).1 (hb j hj).2
 rw[e2]at e1;refine gB (Iw h.1<|m+1) ?_;rw[e1];generalize det (k+1+m+1) (λi j=>A (ex (k+1) r i)<|ex (k+1) c j)=y;rw[yX,Vd y]
theorem oP(h:RG A k M R last)(ht:t<M):RG (λi=>A (rotN k t i)) k M (λi=>R (rotN 0 t i)) last:=by
 refine⟨h.1,λm r c hb=>?_⟩;have e:=h.2 m (λi=>rotN 0 t<|r i) c λi hi=>⟨by
  have:=(hb i hi).1
  unfold rotN;rw[if_neg J];split
  .lia
  .split<;>lia,(hb i hi).2⟩
 rw[e];refine Xy (· * last^m) (Zn λi j _ _=>?_);refine Xy (λa=>A a<|ex k c j) ?_;unfold ex;by_cases hi:i<k
 .rw[if_pos hi,if_pos hi];unfold rotN;rw[if_pos hi]
 .rw[if_neg hi,if_neg hi];show k+rotN 0 t (r<|i-k)=rotN k t (k+r (i-k))
  generalize r (i-k)=a;have r1:rotN 0 t a=if a<0 then a else if a=0 then 0+t else if a<=0+t then a-1 else a:=rfl
  have r2:rotN k t (k+a)=if k+a<k then k+a else if k+a=k then k+t else if k+a<=k+t then k+a-1 else k+a:=rfl
  rw[if_neg J]at r1 r2;by_cases h1:a=0
  .rw[if_pos h1]at r1;rw[if_pos J]at r2;rw[r1,r2];lia
  .rw[if_neg h1]at r1;rw[if_neg J]at r2;by_cases h2:a<=t
   .rw[if_pos J]at r1;rw[if_pos J]at r2;rw[r1,r2];lia
   .rw[if_neg J]at r1;rw[if_neg J]at r2;rw[r1,r2]
theorem Mw(k i:Nat):ex k (λi=>i) i=i:=by
 unfold ex;by_cases h:i<k
 .rw[if_pos h]
 .rw[if_neg h];show k+(i-k)=i
  grind
theorem oO{k M:Nat}(h:RG A k (M+1) R last)(h0:∀i,i<M+1->R i 0=0):det (k+M+1) A=0:=by
 have e:=h.2 M (λi=>i) (λi=>i) λi hi=>⟨hi,hi⟩;rw[oW (A:=λi j=>R i j) h0]at e;have e2:det (k+M+1) (λi j=>A (ex k (λi=>i) i)<|ex k (λi=>i) j)=det (k+M+1) A:=Zn λi j _ _=>by rw[Mw,Mw]
 rw[e2]at e;rcases Int.mul_eq_zero.mp e.symm with z|z
 .exact z
 .exact absurd z (Iw h.1 M)
theorem oN(h:RG A k 1 R last):R 0 0=det (k+1) A:=by
 have e:=h.2 0 (λi=>i) (λi=>i) λi hi=>⟨J,uD⟩;rw[oU,JO,Na]at e;have e2:det (k+0+1) (λi j=>A (ex k (λi=>i) i)<|ex k (λi=>i) j)=det (k+1) A:=Zn λi j _ _=>by rw[Mw,Mw]
 rwa[e2]at e
end My
namespace L2
open PySem PySem.Spec PyProof.Rows
def oM(i j:Int):Prop:=i.natAbs<2^9000/\j.natAbs<2^9000
def oK(i j:Int):Prop:=j≠0/\j.natAbs<2^9000
theorem dy(h:a.natAbs<2^9000):Builtin.Int.intBits a<=9000:=PySem.intBits_le_iff.mpr h
section
variable{X:Cx}
theorem oJ:WH X (binaryOp .Mult) (rI oM λi j=>.int (i*j)):=Gs λ_ _ _ _ _ _ _ hc q=>mul_int q (.of_bits (Yv (dy hc.1) uB)<|Yv (dy hc.2) uB)
theorem oH:WH X (binaryOp .FloorDiv) (rI oK λi j=>.int (i.fdiv j)):=Gs λ_ _ _ _ _ _ _ hc q=>floordiv_int hc.1 q (.inl<|PyProof.noPylong_of_log2<|(Nat.log2_lt (by have:=hc.1;lia)).mpr hc.2)
end
end L2
namespace My
def fnL(L:Ab):Mx:=λi j=>(L.getD i []).getD j 0
theorem Uw{l:Ac}{x:Int}(h:L[i]?=some l)(h2:l[j]?=some x):fnL L i j=x:=by
 have e:L.getD i []=l:=by rw[Ya,h];rfl
 unfold fnL;rw[e,Ya,h2];rfl
def xo(uw:Nat):Nat->Nat
 |0=>1
 |n+1=>(n+1)*(uw*xo uw n)
theorem Cz{f:Nat->Int}{C:Nat}:∀{n:Nat},(∀i,i<n->(f i).natAbs<=C)->(sm n f).natAbs<=n*C
 |0,_=>by show(0:Int).natAbs<=0*C;rw[Nat.zero_mul];exact XJ 0
 |n+1,h=>by
  have h1:=Cz (n:=n) λi hi=>h i J;have h2:=h n J
  have h3:(sm n f+f n).natAbs<=(sm n f).natAbs+(f n).natAbs:=Int.natAbs_add_le ..;show(sm n f+f n).natAbs<=(n+1)*C
  rw[Nat.succ_mul];lia
theorem KG:∀{n:Nat}{A:Mx},(∀i j,i<n->j<n->(A i j).natAbs<=uw)->(det n A).natAbs<=xo uw n
 |0,_,_=>XJ 1
 |n+1,A,h=>by
  refine Cz λj hj=>?_;have e:(sg j).natAbs=1:=by unfold sg;split<;>rfl
  rw[uS,uS,e,Nat.one_mul];exact JS (h 0 j J hj) (KG λi k hi hk=>h (i+1) (sk j k) J<|OO hk)
theorem Cy{b:Nat}:∀{n:Nat},n<=16->xo (2^b) n<=2^((b+4)*n)
 |0,_=>by show 1<=2^((b+4)*0);rw[Nat.mul_zero];exact XJ 1
 |n+1,h=>by
  have ih:=Cy (b:=b) (n:=n) J;have e:2^((b+4)*(n+1))=16*(2^b*2^((b+4)*n)):=by rw[Nat.mul_succ,Nat.pow_add,Nat.pow_add,MX<|2^((b+4)*n),MX (2^b)<|2^4,Nat.mul_assoc]
  rw[e];show(n+1)*(2^b*xo (2^b) n)<=_
  exact JS h (JS (XJ _) ih)
theorem Za9(hn:n<=16)(h:∀i j,i<n->j<n->(A i j).natAbs<=2^400):(det n A).natAbs<2^9000:=by
 have h1:=KG h;have h2:=Cy (b:=400) hn
 have h3:2^((400+4)*n)<=2^(404*16):=vy uB (JS (XJ _) hn);have h4:2^(404*16)<2^9000:=Nat.pow_lt_pow_right uB uB
 exact MZ (Yv h1<|Yv h2 h3) h4
theorem oG(h:RG A k M R last){i j:Nat}(hi:i<M)(hj:j<M):R i j=det (k+1) (λa b=>A (ex k (λ_=>i) a) (ex k (λ_=>j) b)):=by
 have:=h.2 0 (λ_=>i) (λ_=>j) λ_ _=>⟨hi,hj⟩
 rwa[oU,JO,Na]at this
theorem Zg9{k M n:Nat}(h:RG A k M R last)(hn:k+M=n)(hn16:n<=16)(hA:∀i j,i<n->j<n->(A i j).natAbs<=2^400){i j:Nat}(hi:i<M)(hj:j<M):(R i j).natAbs<2^9000:=by
 rw[oG h hi hj];refine Za9 J λa b ha hb=>hA _ _ ?_ ?_
 .have e:ex k (λ_=>i) a=if a<k then a else k+i:=rfl
  rw[e];split<;>lia
 .have e:ex k (λ_=>j) b=if b<k then b else k+j:=rfl
  rw[e];split<;>lia
theorem oE{L:Ab}{l:Ac}(h:L[t]?=some l)(i:Nat):(l::L.eraseIdx t)[i]?=L[rotN 0 t i]?:=by
 have ht:=(Xr.mp h).1;have r:rotN 0 t i=if i<0 then i else if i=0 then 0+t else if i<=0+t then i-1 else i:=rfl
 rw[if_neg J]at r;cases i with
 |zero=>
  rw[if_pos Z,LC]at r;rw[r,h];rfl
 |succ i=>
  rw[if_neg J,LC]at r;rw[r,List.getElem?_cons_succ,vB];by_cases c:i+1<=t
  .rw[if_pos c,if_pos J];rfl
  .rw[if_neg c,if_neg J]
theorem oB{l:Ac}(h:L[t]?=some l):fnL (l::L.eraseIdx t)=λi=>fnL L (rotN 0 t i):=by
 funext i j
 show((l::L.eraseIdx t).getD i []).getD j 0=(L.getD (rotN 0 t i) []).getD j 0;refine Xy (λr:Ac=>r.getD j 0) ?_;rw[Ya,Ya,oE h]
def OM(y:Int)(p:Ac)(last:Int)(l:Ac):Ac:=List.zipWith (λown other=>(y*own-l.headD 0*other).fdiv last) l.tail p
theorem dw(h:l.length=p.length+1):(OM y p last l).length=p.length:=by unfold OM;rw[Nj,yU];grind
theorem oz{L:Ab}{M:Nat}(hp:p.length=M)(hL:L.length=M)(hl:∀l∈L,l.length=M+1){i j:Nat}(hi:i<M)(hj:j<M):
  fnL (L.map<|OM y p last) i j=(offN (fnL<|(y::p)::L) i j).fdiv last:=by
 obtain⟨l,KD⟩:∃l,L[i]?=some l:=⟨_,Xw J⟩;have Vg:=hl l (Xi KD)
 obtain⟨x,l',rfl⟩:∃x l',l=x::l':=by
  cases l with
  |nil=>cases Vg
  |cons x l'=>exact⟨x,l',Z⟩
 have Rc:l'.length=M:=by rw[Yt]at Vg;lia
 obtain⟨u,hu⟩:∃u,l'[j]?=some u:=⟨_,Xw J⟩;obtain⟨v,hv⟩:∃v,p[j]?=some v:=⟨_,Xw J⟩;have e1:fnL (L.map<|OM y p last) i j=(y*u-x*v).fdiv last:=Uw (l:=OM y p last<|x::l') (by rw[Yl,KD];rfl) (by
  show(List.zipWith _ l' p)[j]?=_;rw[LK,hu,hv]
  rfl)
 have e2:fnL ((y::p)::L) 0 0=y:=rfl;have e3:fnL ((y::p)::L) (i+1) (j+1)=u:=Uw (l:=x::l') KD hu
 have e4:fnL ((y::p)::L) (i+1) 0=x:=Uw (l:=x::l') KD rfl;have e5:fnL ((y::p)::L) 0 (j+1)=v:=Uw (l:=y::p) Z hv
 rw[e1];unfold offN;rw[e2,e3,e4,e5]
end My
namespace My
open PySem L2
def Cw(K:Ad)(H:Hp)(v:V)(l:Ac):Prop:=∃r k,v=.ref r/\SqK k K H r (IL l)
def LiV(d:Addr)(H:Hp)(v:V)(l:Ac):Prop:=∃r,v=.ref r/\H r=some (.lst<|IL l)/\r≠d
theorem LiV.same(s:Same H H')(h:LiV d H v l):LiV d H' v l:=by obtain⟨r,e,h,n⟩:=h;exact⟨r,e,s _ _ h,n⟩
theorem LiV.mut(h:LiV d H v l):LiV d (upd H d o) v l:=by obtain⟨r,e,h,n⟩:=h;exact⟨r,e,by rw[Zb n];exact h,n⟩
theorem LiV.list(h:LiV d H v l):QQ H v l:=by obtain⟨r,e,h,_⟩:=h;exact⟨r,e,h⟩
theorem Bears.erase{α:Type}[DecidableEq α]{R:V->α->Prop}{xs:List V}{l:List α}(h:Bears R xs l)(t:Nat):Bears R (xs.eraseIdx t) (l.eraseIdx t):=by
 have hl:=h.1;refine⟨by rw[vq,vq,hl],λi a e=>?_⟩;rw[vB]at e;rw[vB];split at e
 .next c=>rw[if_pos c];exact h.2 _ _ e
 .next c=>rw[if_neg c];exact h.2 _ _ e
theorem dv(x:Int)(l:Ac):Xe (IL (x::l)) (some 1) none=IL l:=by rw[xu uB];rfl
theorem oy(t:Nat):sg t*sg t=1:=by unfold sg;split<;>rfl
end My
namespace My
theorem ox{f:Nat->Nat->Int}:sm n (λi=>sm m λj=>f i j)=sm m (λj=>sm n λi=>f i j):=o7
theorem du:∀{n:Nat}{A:Mx},det (n+1) A=sm (n+1) λi=>sg i*A i 0*det n (λr c=>A (sk i r) (c+1))
 |0,A=>rfl
 |n+1,A=>by
  have e1:det (n+2) A=sg 0*A 0 0*det (n+1) (mn A 0)+sm (n+1) λj=>sg (j+1)*A 0 (j+1)*det (n+1) (mn A<|j+1):=CB;have e2:sm (n+2) (λi=>sg i*A i 0*det (n+1) λr c=>A (sk i r)<|c+1)=sg 0*A 0 0*det (n+1) (λr c=>A (sk 0 r)<|c+1)+sm (n+1) λi=>sg (i+1)*A (i+1) 0*det (n+1) (λr c=>A (sk (i+1) r)<|c+1):=CB
  rw[e1,e2];have e3:det (n+1) (mn A 0)=det (n+1) (λr c=>A (sk 0 r)<|c+1):=Zn λr c _ _=>rfl
  rw[e3];refine Xy (λz:Int=>sg 0*A 0 0*det (n+1) (λr c=>A (sk 0 r)<|c+1)+z) ?_;obtain⟨D,hD⟩:∃D:Nat->Nat->Int,D=λi j=>det n (λr c=>A (sk i r+1)<|sk (j+1)<|c+1):=⟨_,Z⟩;have e4:∀j,j<n+1->det (n+1) (mn A<|j+1)=sm (n+1) λi=>sg i*A (i+1) 0*D i j:=λj _=>by rw[du,hD];rfl
  have e5:∀i,i<n+1->det (n+1) (λr c=>A (sk (i+1) r)<|c+1)=sm (n+1) λj=>sg j*A 0 (j+1)*D i j:=λi hi=>by
   show sm (n+1) (λj=>sg j*A (sk (i+1) 0) (j+1)*det n (mn (λr c=>A (sk (i+1) r)<|c+1) j))=_;refine ZH λj _=>?_;rw[hD];show sg j*A (sk (i+1) 0) (j+1)*det n (mn (λr c=>A (sk (i+1) r)<|c+1) j)=sg j*A 0 (j+1)*det n (λr c=>A (sk i r+1)<|sk (j+1)<|c+1)
   rw[show sk (i+1) 0=0 from Z];refine Xy (sg j*A 0 (j+1) * ·) (Zn λr c _ _=>?_);show A (sk (i+1)<|r+1) (sk j c+1)=A (sk i r+1) (sk (j+1)<|c+1)
   have f1:sk (i+1) (r+1)=sk i r+1:=by
    unfold sk;by_cases h:r<i
    .rw[if_pos h,if_pos J]
    .rw[if_neg h,if_neg J]
   have f2:sk j c+1=sk (j+1) (c+1):=by
    unfold sk;by_cases h:c<j
    .rw[if_pos h,if_pos J]
    .rw[if_neg h,if_neg J]
   rw[f1,f2]
  have e6:sm (n+1) (λj=>sg (j+1)*A 0 (j+1)*det (n+1) (mn A<|j+1))=sm (n+1) λj=>sm (n+1) λi=>sg (j+1)*A 0 (j+1)*(sg i*A (i+1) 0*D i j):=ZH λj hj=>by rw[e4 j hj,FV]
  have e7:sm (n+1) (λi=>sg (i+1)*A (i+1) 0*det (n+1) λr c=>A (sk (i+1) r)<|c+1)=sm (n+1) λi=>sm (n+1) λj=>sg (i+1)*A (i+1) 0*(sg j*A 0 (j+1)*D i j):=ZH λi hi=>by rw[e5 i hi,FV]
  rw[e6,e7,ox];refine ZH λi _=>ZH λj _=>?_;rw[Mz,Mz];generalize D i j=d;generalize A 0 (j+1)=x;generalize A (i+1) 0=y;generalize sg i=s;generalize sg j=u;simp only[yG,Int.neg_inj];simp only[Vd,yX,RO]
theorem OL:∀{n:Nat}{A:Mx},det n (λi j=>A j i)=det n A
 |0,_=>rfl
 |n+1,A=>by
  rw[du (A:=A)];refine ZH λj _=>?_;show sg j*A j 0*det n (λi k=>A (sk j k)<|i+1)=sg j*A j 0*det n (λr c=>A (sk j r)<|c+1)
  rw[<-OL (A:=λr c=>A (sk j r)<|c+1)]
theorem ou{n a b:Nat}(ha:a<n)(hb:b<n)(XH:a≠b)(h:∀j,j<n->A a j=A b j):det n A=0:=by
 rcases Nat.lt_or_gt_of_ne XH with c|c
 .obtain⟨d,rfl⟩:∃d,b=a+d+1:=⟨b-a-1,uE⟩;exact xp hb h
 .obtain⟨d,rfl⟩:∃d,a=b+d+1:=⟨a-b-1,uE⟩;exact xp ha λj hj=>(h j hj).symm
def putr(A:Mx)(i:Nat)(x:Nat->Int):Mx:=λr=>if r=i then x else A r
theorem dt{c:Int}{x y:Nat->Int}(hi:i<n):det n (putr A i λj=>c*x j+y j)=c*det n (putr A i x)+det n (putr A i y):=
 Iy hi (λr j _ _ XH=>by unfold putr;rw[if_neg XH,if_neg XH,if_neg XH];exact⟨Z,Z⟩) (λj _=>by unfold putr;rw[if_pos Z,if_pos Z,if_pos Z])
theorem dr:putr A i (A i)=A:=by
 funext r
 unfold putr;by_cases h:r=i
 .rw[if_pos h,h]
 .rw[if_neg h]
theorem dq{n a b:Nat}{c:Int}(ha:a<n)(hb:b<n)(XH:a≠b):det n (putr A a λj=>A a j+c*A b j)=det n A:=by
 have e:(λj=>A a j+c*A b j)=λj=>c*A b j+A a j:=by funext j;lia
 rw[e,dt ha,dr,ou ha hb XH (A:=putr A a<|A b) λj _=>?_,RM,Lz];unfold putr;rw[if_pos Z,if_neg (XI XH)]
theorem oq(a i:Nat):rotN 0 a (i+1)=sk a i:=by
 have r:rotN 0 a (i+1)=if i+1<0 then i+1 else if i+1=0 then 0+a else if i+1<=0+a then i+1-1 else i+1:=rfl
 rw[if_neg J,if_neg J]at r;rw[r];unfold sk;by_cases h:i<a
 .rw[if_pos h,if_pos J];lia
 .rw[if_neg h,if_neg J]
theorem dk{f:Nat->Int}{a:Nat}:∀{n:Nat},a<n->(∀j,j<n->j≠a->f j=0)->sm n f=f a
 |0,h,_=>absurd h (Ws _)
 |n+1,h,h0=>by
  show sm n f+f n=f a;by_cases c:a=n
  .rw[Iz λi hi=>h0 i uE J,c,Lz]
  .rw[dk (n:=n) J λj hj XH=>h0 j J XH,h0 n J J,Rm]
theorem oo(ha:a<n+1):det (n+1) (putr A a λj=>if j=a then 1 else 0)=det n (λi j=>A (sk a i) (sk a j)):=by
 have e:=oX (n:=n+1) (k:=0) (t:=a) (A:=putr A a λj=>if j=a then 1 else 0) J;have r0:rotN 0 a 0=a:=by show(if 0<0 then 0 else if 0=0 then 0+a else _)=a;rw[if_neg J,if_pos Z,LC]
 have top:det (n+1) (λi=>putr A a (λj=>if j=a then 1 else 0)<|rotN 0 a i)=sg a*det n (λi j=>A (sk a i)<|sk a j):=by
  show sm (n+1) (λj=>sg j*putr A a (λj=>if j=a then 1 else 0) (rotN 0 a 0) j*det n (mn (λi=>putr A a (λj=>if j=a then 1 else 0)<|rotN 0 a i) j))=_;rw[dk ha λj _ XH=>?_]
  .rw[r0];have e1:putr A a (λj=>if j=a then 1 else 0) a a=1:=by unfold putr;rw[if_pos Z,if_pos Z]
   rw[e1,Na];refine Xy (sg a * ·) (Zn λi j _ _=>?_);show putr A a (λj=>if j=a then 1 else 0) (rotN 0 a<|i+1) (sk a j)=A (sk a i) (sk a j)
   rw[oq];unfold putr;rw[if_neg (by unfold sk;split<;>lia)]
  .rw[r0];have e1:putr A a (λj=>if j=a then 1 else 0) a j=0:=by unfold putr;rw[if_pos Z,if_neg XH]
   rw[e1,RM,EO]
 rw[top]at e;have h:=Xy (sg a * ·) e
 simp only[<-RO]at h;rw[show sg a*sg a=1 by unfold sg;split<;>rfl,Sv,Sv]at h
 exact h.symm
theorem di{w:Int}(ha:a<n+1):det (n+1) (λi j=>A i j+w*((if i=a then 1 else 0)*(if j=a then 1 else 0)))=det (n+1) A+w*det n (λi j=>A (sk a i) (sk a j)):=by
 have e:det (n+1) (λi j=>A i j+w*((if i=a then 1 else 0)*(if j=a then 1 else 0)))=det (n+1) (putr A a λj=>w*(λj=>if j=a then 1 else 0) j+A a j):=Zn λi j _ _=>by
  unfold putr;by_cases h:i=a
  .subst h;rw[if_pos Z,if_pos Z,Sv];show A i j+w*(if j=i then 1 else 0)=w*(if j=i then 1 else 0)+A i j
   exact Int.add_comm ..
  .rw[if_neg h,if_neg h,EO,RM,Rm]
 rw[e,dt ha,dr,oo ha];lia
def ind(u v i:Nat):Int:=(if i=u then 1 else 0)-(if i=v then 1 else 0)
def Qh(A:Mx)(a b:Nat):Mx:=λi j=>(A i j+(if i=b then A a j else 0))+(if j=b then A i a+(if i=b then A a a else 0) else 0)
theorem dh(ha:a<n)(hb:b<n)(XH:a≠b):det n (Qh A a b)=det n A:=by
 have e1:det n A=det n (putr A b λj=>A b j+1*A a j):=(dq hb ha<|XI XH).symm;obtain⟨R,hR⟩:∃R:Mx,R=putr A b (λj=>A b j+1*A a j):=⟨_,Z⟩;have e2:det n R=det n (putr (λi j=>R j i) b λj=>(λi j=>R j i) b j+1*(λi j=>R j i) a j):=by rw[dq (A:=λi j=>R j i) hb ha (XI XH)];exact OL.symm
 rw[e1,<-hR,e2,<-OL (A:=putr (λi j=>R j i) b λj=>(λi j=>R j i) b j+1*(λi j=>R j i) a j)];refine Zn λi j _ _=>?_;have rv:∀r c,R r c=A r c+(if r=b then A a c else 0):=λr c=>by
  rw[hR];unfold putr;by_cases h:r=b
  .rw[if_pos h,if_pos h,h];lia
  .rw[if_neg h,if_neg h];lia
 unfold Qh;show _=(putr (λi j=>R j i) b λj=>R j b+1*R j a) j i
 unfold putr;by_cases h:j=b
 .rw[if_pos h,if_pos h,rv,rv,h];by_cases h2:i=b
  .rw[if_pos h2,if_pos h2];lia
  .rw[if_neg h2,if_neg h2];lia
 .rw[if_neg h,if_neg h];show _=R i j
  rw[rv];lia
theorem om{w:Int}(ha:a<n+1)(hb:b<n+1)(XH:a≠b):det (n+1) (λi j=>A i j+w*(ind a b i*ind a b j))=det (n+1) A+w*det n (λi j=>Qh A a b (sk a i) (sk a j)):=by
 have e1:=dh (A:=λi j=>A i j+w*(ind a b i*ind a b j)) ha hb XH;have e2:det (n+1) (Qh (λi j=>A i j+w*(ind a b i*ind a b j)) a b)=det (n+1) (λi j=>Qh A a b i j+w*((if i=a then 1 else 0)*(if j=a then 1 else 0))):=Zn λi j _ _=>by
  have na:¬a=b:=XH;have nb:¬b=a:=XI XH
  unfold Qh ind;by_cases hi:i=b
  .subst hi;by_cases hj:j=i
   .subst hj;simp[na,nb];lia
   .by_cases Qg:j=a
    .subst Qg;simp[na,nb,hj];lia
    .simp[na,nb,hj,Qg]
  .by_cases Wh:i=a
   .subst Wh;by_cases hj:j=b
    .subst hj;simp[na,nb];lia
    .by_cases Qg:j=i
     .subst Qg;simp[na,nb]
     .simp[na,nb,hj,Qg]
   .by_cases hj:j=b
    .subst hj;simp[na,nb,hi,Wh]
    .by_cases Qg:j=a
     .subst Qg;simp[na,nb,hi,Wh]
     .simp[na,nb,hi,Wh,hj,Qg]
 rw[<-e1,e2,di ha,dh ha hb XH]
end My
namespace My
open PySem L2
abbrev Ed:=Nat×Nat×Int
def lapE:List Ed->Mx
 |[]=>λ_ _=>0
 |e::E=>λi j=>e.2.2*(ind e.1 e.2.1 i*ind e.1 e.2.1 j)+lapE E i j
theorem oj(E:List Ed)(e:Ed)(i j:Nat):lapE (E++[e]) i j=lapE E i j+e.2.2*(ind e.1 e.2.1 i*ind e.1 e.2.1 j):=by
 induction E with
 |nil=>show _+0=0+_;lia
 |cons f E ih=>
  show _+lapE (E++[e]) i j=_+lapE E i j+_;rw[ih];lia
def Tv(E:List Ed)(z:Int):Nat×Nat:=((E.getD z.toNat (0,0,0)).1,(E.getD z.toNat (0,0,0)).2.1)
def Uv(E:List Ed):Ac->Int
 |[]=>1
 |z::T=>(E.getD z.toNat (0,0,0)).2.2*Uv E T
theorem oh(E:List Ed)(uz T:Ac):Uv E (uz++T)=Uv E uz*Uv E T:=by
 induction uz with
 |nil=>show _=1*_;rw[Sv];rfl
 |cons z uz ih=>show _*Uv E (uz++T)=_*_*_;rw[ih,RO]
def IsT(k:Nat)(E:List Ed)(T:Ac):Prop:=IsSet E.length T/\T.length=k/\∀i j,i<k+1->j<k+1->Conn (T.map<|Tv E) i j
def TW(k:Nat)(E:List Ed)(s:Int):Prop:=∃L:Ab,L.Nodup/\(∀T,T∈L↔IsT k E T)/\(L.map<|Uv E).sum=s
theorem df{E:List Ed}{e:Ed}{z:Int}(h0:0<=z)(h1:z<(E.length:Int)):(E++[e]).getD z.toNat (0,0,0)=E.getD z.toNat (0,0,0):=by rw[Ya,Ya,Ys J]
theorem de(E:List Ed)(e:Ed):(E++[e]).getD (E.length:Int).toNat (0,0,0)=e:=by rw[Ya,YA,Yo<|XJ _,Ve];rfl
theorem OK{e:Ed}(h:IsSet E.length T):T.map (Tv (E++[e]))=T.map (Tv E):=VW λz hz=>by
 have:=h.all z hz
 unfold Tv;rw[df this.1 this.2]
theorem OJ{e:Ed}(h:∀z∈T,0<=z/\z<(E.length:Int)):Uv (E++[e]) T=Uv E T:=by
 induction T with
 |nil=>rfl
 |cons z T ih=>
  have hz:=h z Xd;show _*Uv (E++[e]) T=_*Uv E T
  rw[df hz.1 hz.2,ih λy hy=>h y (Yf _ hy)]
theorem xn{e:Ed}(h:IsSet E.length T):IsT k (E++[e]) T↔IsT k E T:=by
 have h2:IsSet (E++[e]).length T:=by rw[Xu];exact h.up
 constructor
 .rintro⟨_,a,b⟩;exact⟨h,a,by rwa[OK h]at b⟩
 .rintro⟨_,a,b⟩;exact⟨h2,a,by rwa[OK h]⟩
theorem Cv{e:Ed}(h:IsSet E.length T):(T++[(E.length:Int)]).map (Tv (E++[e]))=T.map (Tv E)++[(e.1,e.2.1)]:=by
 rw[YG,OK h];show _++[Tv (E++[e]) (E.length:Int)]=_
 unfold Tv;rw[de]
def sh(a x:Nat):Nat:=if x<a then x else x-1
def dl(a b x:Nat):Nat:=if x=a then sh a b else sh a x
theorem Iv(a y:Nat):sh a (sk a y)=y:=by
 unfold sk;by_cases h:y<a
 .rw[if_pos h];unfold sh;rw[if_pos h]
 .rw[if_neg h];unfold sh;rw[if_neg J];lia
theorem Cu(a y:Nat):sk a y≠a:=by unfold sk;split<;>lia
theorem Mv(h:x≠a):sk a (sh a x)=x:=by
 unfold sh;by_cases c:x<a
 .rw[if_pos c];unfold sk;rw[if_pos c]
 .rw[if_neg c];unfold sk;rw[if_neg J];lia
theorem Mu(a b y:Nat):dl a b (sk a y)=y:=by unfold dl;rw[if_neg (Cu a y),Iv]
theorem Iu(hx:x≠a)(hy:y≠a)(h:sh a x=sh a y):x=y:=by
 have:=Xy (sk a) h
 rwa[Mv hx,Mv hy]at this
theorem og(XH:b≠a)(h:dl a b x=dl a b y):x=y\/(x=a/\y=b)\/(x=b/\y=a):=by
 unfold dl at h;by_cases hx:x=a
 .rw[if_pos hx]at h;by_cases hy:y=a
  .exact .inl (hx.trans hy.symm)
  .rw[if_neg hy]at h;exact .inr (.inl ⟨hx,(Iu XH hy h).symm⟩)
 .rw[if_neg hx]at h;by_cases hy:y=a
  .rw[if_pos hy]at h;exact .inr (.inr ⟨Iu hx XH h,hy⟩)
  .rw[if_neg hy]at h;exact .inl (Iu hx hy h)
theorem oe(a b:Nat)(XH:b≠a):dl a b a=dl a b b:=by unfold dl;rw[if_pos Z,if_neg XH]
theorem n9{es:List (Nat×Nat)}{i j:Nat}(XH:b≠a)(c:Conn (es++[(a,b)]) i j):Conn (es.map λe=>(dl a b e.1,dl a b e.2)) (dl a b i) (dl a b j):=by
 induction c with
 |refl i=>exact .refl _
 |edge q=>
  rcases XE.mp q with q|q
  .exact .edge (Yz.mpr ⟨_,q,Z⟩)
  .have e:=XG.mp q;injection e with e1 e2
   rw[e1,e2,oe a b XH];exact .refl _
 |symm _ ih=>exact .symm ih
 |trans _ _ a b=>exact .trans a b
theorem n8{es:List (Nat×Nat)}{u v:Nat}(XH:b≠a)(c:Conn (es.map λe=>(dl a b e.1,dl a b e.2)) u v):∀i j,dl a b i=u->dl a b j=v->Conn (es++[(a,b)]) i j:=by
 have he:Conn (es++[(a,b)]) a b:=.edge S;have same:∀i j,dl a b i=dl a b j->Conn (es++[(a,b)]) i j:=λi j e=>by
  rcases og XH e with e|⟨e1,e2⟩|⟨e1,e2⟩
  .rw[e];exact .refl _
  .rw[e1,e2];exact he
  .rw[e1,e2];exact he.symm
 induction c with
 |refl u=>exact λi j e1 e2=>same i j (e1.trans e2.symm)
 |edge q=>
  intro i j e1 e2;obtain⟨⟨x,y⟩,KN,e⟩:=Yz.mp q;injection e with x1 x2
  exact(same i x<|e1.trans x1.symm).trans (.trans (.edge<|Yd _ KN)<|same y j<|x2.trans e2.symm)
 |symm _ ih=>exact λi j e1 e2=>(ih j i e2 e1).symm
 |@trans x y z _ _ OU Sz=>exact λi j e1 e2=>(OU i (sk a y) e1<|Mu a b y).trans (Sz (sk a y) j (Mu a b y) e2)
theorem RF{a b x k:Nat}(ha:a<k+1)(hb:b<k+2)(XH:b≠a)(hx:x<k+2):dl a b x<k+1:=by
 unfold dl sh;by_cases h:x=a
 .rw[if_pos h];split<;>grind
 .rw[if_neg h];split<;>grind
theorem dc{a b k:Nat}{es:List (Nat×Nat)}(ha:a<k+1)(hb:b<k+2)(XH:b≠a):(∀i j,i<k+2->j<k+2->Conn (es++[(a,b)]) i j)↔∀i j,i<k+1->j<k+1->Conn (es.map λe=>(dl a b e.1,dl a b e.2)) i j:=by
 constructor
 .intro c i j h1 h2
  have:=n9 XH (c (sk a i) (sk a j) (OO h1)<|OO h2)
  rwa[Mu,Mu]at this
 .exact λc i j h1 h2=>n8 XH (c _ _ (RF ha hb XH h1)<|RF ha hb XH h2) i j Z rfl
def Sy(a b:Nat)(E:List Ed):List Ed:=E.map λe=>(dl a b e.1,dl a b e.2.1,e.2.2)
theorem c9{z:Int}(h0:0<=z)(h1:z<(E.length:Int)):(Sy a b E).getD z.toNat (0,0,0)=(dl a b (E.getD z.toNat (0,0,0)).1,dl a b (E.getD z.toNat (0,0,0)).2.1,(E.getD z.toNat (0,0,0)).2.2):=by unfold Sy;rw[Ya,Ya,Yl,Xw uD];rfl
theorem c8(h:IsSet E.length T):T.map (Tv (Sy a b E))=(T.map (Tv E)).map λe=>(dl a b e.1,dl a b e.2):=by
 rw[LB];refine VW λz hz=>?_
 have:=h.all z hz
 unfold Tv;rw[c9 this.1 this.2];rfl
theorem n6(h:∀z∈T,0<=z/\z<(E.length:Int)):Uv (Sy a b E) T=Uv E T:=by
 induction T with
 |nil=>rfl
 |cons z T ih=>
  have hz:=h z Xd;show _*Uv (Sy a b E) T=_*Uv E T
  rw[c9 hz.1 hz.2,ih λy hy=>h y (Yf _ hy)]
theorem Ct{e:Ed}(ha:a<k+1)(hb:b<k+2)(XH:b≠a)(he:(e.1=a/\e.2.1=b)\/(e.1=b/\e.2.1=a))(h:IsSet E.length T):IsT (k+1) (E++[e]) (T++[(E.length:Int)])↔IsT k (Sy a b E) T:=by
 have hl:(Sy a b E).length=E.length:=Yb ..;have hc:(∀i j,i<k+2->j<k+2->Conn ((T++[(E.length:Int)]).map (Tv<|E++[e])) i j)↔∀i j,i<k+2->j<k+2->Conn (T.map (Tv E)++[(a,b)]) i j:=by
  rw[Cv h];rcases he with ⟨e1,e2⟩|⟨e1,e2⟩
  .rw[e1,e2]
  .rw[e1,e2];exact⟨λc i j x y=>dG<|c i j x y,λc i j x y=>dG<|c i j x y⟩
 have h2:IsSet (E++[e]).length (T++[(E.length:Int)]):=by rw[Xu];exact h.snoc
 constructor
 .rintro⟨_,x,y⟩;refine⟨hl▸h,?_,?_⟩
  .rw[Xu,Yu]at x;lia
  .rw[c8 h];exact(dc ha hb XH).mp (hc.mp y)
 .rintro⟨_,x,y⟩;rw[c8 h]at y;refine⟨h2,by rw[Xu,Yu,x],hc.mpr<|(dc ha hb XH).mpr y⟩
theorem nZ{E:List Ed}{e:Ed}(hE:∀f∈E,f.1<k+1/\f.2.1<k+1)(he:e.1=e.2.1)(h:IsSet E.length T):¬IsT k (E++[e]) (T++[(E.length:Int)]):=by
 rintro⟨_,x,y⟩;rw[Cv h]at y;have OT:∀i j,i<k+1->j<k+1->Conn (T.map<|Tv E) i j:=λi j hi hj=>(y i j hi hj).lift λf hf=>by
  rcases XE.mp hf with q|q
  .exact .edge q
  .rw[XG.mp q,he];exact .refl _
 have WE:InN (k+1) (T.map<|Tv E):=λf hf=>by
  obtain⟨z,hz,rfl⟩:=Yz.mp hf
  have:=h.all z hz
  unfold Tv;rw[Ya,Xw J];exact hE _ (Ni _)
 have h2:=(KS J WE).mpr OT;have h3:=xF _ WE
 rw[Yb]at h3;rw[Xu,Yu]at x;lia
theorem nY{e:Ed}(hE:∀f∈E,f.1<k+1/\f.2.1<k+1)(he:e.1=e.2.1)(h:TW k E s):TW k (E++[e]) s:=by
 obtain⟨L,a1,a2,a3⟩:=h;refine⟨L,a1,λT=>?_,?_⟩
 .rw[a2];constructor
  .exact λh=>(xn h.1).mpr h
  .intro h;have hs:=h.1
   rw[Xu]at hs;rcases dH hs with c|⟨T',c,c2⟩
   .exact(xn c).mp h
   .exact absurd (c▸h) (nZ hE he c2)
 .rw[<-a3];refine Xy List.sum (VW λT hT=>OJ ((a2 T).mp hT).1.all)
theorem nX(a b:Ac):(a++b).sum=a.sum+b.sum:=by
 induction a with
 |nil=>rw[Ng,List.sum_nil,Lz]
 |cons x a ih=>rw[GK,JQ,JQ,ih];lia
theorem Zi8(w:Int)(l:Ab)(f:Ac->Int):(l.map λT=>f T*w).sum=w*(l.map f).sum:=by
 induction l with
 |nil=>rw[List.map_nil,List.map_nil,List.sum_nil,RM]
 |cons x l ih=>rw[UI,UI,JQ,JQ,ih,Su,Vd]
theorem nW{e:Ed}(ha:a<k+1)(hb:b<k+2)(XH:b≠a)(he:(e.1=a/\e.2.1=b)\/(e.1=b/\e.2.1=a))(h1:TW (k+1) E s1)(h2:TW k (Sy a b E) s2):TW (k+1) (E++[e]) (s1+e.2.2*s2):=by
 obtain⟨L,a1,a2,a3⟩:=h1;obtain⟨M,b1,b2,b3⟩:=h2;have hl:(Sy a b E).length=E.length:=Yb ..
 refine⟨L++M.map (·++[(E.length:Int)]),YM.mpr ⟨a1,?_,λx hx y hy c=>?_⟩,λT=>?_,?_⟩
 .exact List.Pairwise.map _ (λx y h c=>h<|List.append_cancel_right c) b1
 .obtain⟨z,hz,c2⟩:=Yz.mp hy
  have:=((a2 x).mp hx).1.all (E.length:Int) (by rw[c,<-c2];simp)
  lia
 .rw[XE,a2,Yz];constructor
  .rintro(h|⟨T',hT,rfl⟩)
   .exact(xn h.1).mpr h
   .have:=(b2 T').mp hT
    exact(Ct ha hb XH he<|hl▸this.1).mpr this
  .intro h;have hs:=h.1
   rw[Xu]at hs;rcases dH hs with c|⟨T',c,c2⟩
   .exact .inl ((xn c).mp h)
   .exact .inr ⟨T',(b2 T').mpr ((Ct ha hb XH he c2).mp (c▸h)),c.symm⟩
 .rw[YG,nX,LB];have e1:L.map (Uv<|E++[e])=L.map (Uv E):=VW λT hT=>OJ ((a2 T).mp hT).1.all
  have e2:M.map (Uv (E++[e])∘(·++[(E.length:Int)]))=M.map λT=>Uv (Sy a b E) T*e.2.2:=VW λT hT=>by
   have hs:IsSet E.length T:=hl▸((b2 T).mp hT).1;show Uv (E++[e]) (T++[(E.length:Int)])=_
   rw[oh,OJ hs.all,n6 hs.all];show _*(((E++[e]).getD (E.length:Int).toNat (0,0,0)).2.2*1)=_
   rw[de,Na]
  rw[e1,e2,a3,Zi8,b3]
theorem Cs(XH:b≠a):ind (dl a b u) (dl a b v) i=ind u v (sk a i)+(if sk a i=b then ind u v a else 0):=by
 have key:∀x:Nat,((if i=dl a b x then 1 else 0:Int))=(if sk a i=x then 1 else 0)+(if sk a i=b then (if a=x then 1 else 0) else 0):=λx=>by
  unfold dl;by_cases hx:x=a
  .rw[if_pos hx,if_neg<|show ¬sk a i=x from hx▸Cu a i,Lz];by_cases h:sk a i=b
   .rw[if_pos h,if_pos hx.symm,if_pos];rw[<-h,Iv]
   .rw[if_neg h,if_neg];intro e;exact h (by rw[e,Mv XH])
  .rw[if_neg hx];have e2:(if sk a i=b then (if a=x then 1 else 0:Int) else 0)=0:=by rw[if_neg (XI hx)];split<;>rfl
   rw[e2,Rm];by_cases h:sk a i=x
   .rw[if_pos h,if_pos];rw[<-h,Iv]
   .rw[if_neg h,if_neg];intro e;exact h (by rw[e,Mv hx])
 unfold ind;rw[key u,key v];by_cases h:sk a i=b
 .rw[if_pos h,if_pos h,if_pos h];lia
 .rw[if_neg h,if_neg h,if_neg h];lia
theorem c7(XH:b≠a)(i j:Nat):∀E:List Ed,lapE (Sy a b E) i j=Qh (lapE E) a b (sk a i) (sk a j)
 |[]=>by
  show(0:Int)=_;unfold Qh lapE;by_cases h:sk a i=b
  .by_cases h2:sk a j=b
   .rw[if_pos h,if_pos h2];rfl
   .rw[if_pos h,if_neg h2];rfl
  .by_cases h2:sk a j=b
   .rw[if_neg h,if_pos h2];rfl
   .rw[if_neg h,if_neg h2];rfl
 |e::E=>by
  have ih:=c7 XH i j E;show e.2.2*(ind (dl a b e.1) (dl a b e.2.1) i*ind (dl a b e.1) (dl a b e.2.1) j)+lapE (Sy a b E) i j=_
  rw[ih,Cs XH,Cs XH];unfold Qh;show _=(e.2.2*(ind e.1 e.2.1 (sk a i)*ind e.1 e.2.1 (sk a j))+lapE E (sk a i) (sk a j)+(if sk a i=b then e.2.2*(ind e.1 e.2.1 a*ind e.1 e.2.1 (sk a j))+lapE E a (sk a j) else 0))+(if sk a j=b then (e.2.2*(ind e.1 e.2.1 (sk a i)*ind e.1 e.2.1 a)+lapE E (sk a i) a)+(if sk a i=b then e.2.2*(ind e.1 e.2.1 a*ind e.1 e.2.1 a)+lapE E a a else 0) else 0)
  generalize ind e.1 e.2.1 (sk a i)=x;generalize ind e.1 e.2.1 (sk a j)=y;generalize ind e.1 e.2.1 a=z;generalize e.2.2=w;by_cases h:sk a i=b
  .by_cases h2:sk a j=b
   .simp only[if_pos h,if_pos h2,Su,yE];lia
   .simp only[if_pos h,if_neg h2,Su,yE,Rm,RM];lia
  .by_cases h2:sk a j=b
   .simp only[if_neg h,if_pos h2,Su,yE,Rm,EO];lia
   .simp only[if_neg h,if_neg h2,Rm]
theorem c6(u v i:Nat):ind v u i=- ind u v i:=by unfold ind;lia
theorem nV{e:Ed}(ha:a<k+1)(hb:b<k+2)(XH:b≠a)(he:(e.1=a/\e.2.1=b)\/(e.1=b/\e.2.1=a)):det (k+1) (lapE (E++[e]))=det (k+1) (lapE E)+e.2.2*det k (lapE (Sy a b E)):=by
 have e1:det (k+1) (lapE<|E++[e])=det (k+1) (λi j=>lapE E i j+e.2.2*(ind a b i*ind a b j)):=Zn λi j _ _=>by
  rw[oj];rcases he with ⟨x,y⟩|⟨x,y⟩
  .rw[x,y]
  .rw[x,y,c6 a b i,c6 a b j,Int.neg_mul_neg]
 have e2:det k (lapE<|Sy a b E)=det k (λi j=>Qh (lapE E) a b (sk a i)<|sk a j):=Zn λi j _ _=>c7 XH i j E;rw[e1,e2];by_cases hk:b<k+1
 .exact om ha hk (XI XH)
 .have e3:det (k+1) (λi j=>lapE E i j+e.2.2*(ind a b i*ind a b j))=det (k+1) (λi j=>lapE E i j+e.2.2*((if i=a then 1 else 0)*(if j=a then 1 else 0))):=Zn λi j hi hj=>by unfold ind;rw[if_neg (show ¬i=b by lia),if_neg (show ¬j=b by lia),GF,GF]
  have e4:det k (λi j=>Qh (lapE E) a b (sk a i)<|sk a j)=det k (λi j=>lapE E (sk a i)<|sk a j):=Zn λi j hi hj=>by
   have h1:=OO (j:=a) hi;have h2:=OO (j:=a) hj
   unfold Qh;rw[if_neg (show ¬sk a i=b by lia),if_neg (show ¬sk a j=b by lia),Rm,Rm]
  rw[e3,e4];exact di ha
theorem c5{e:Ed}(he:e.1=e.2.1):lapE (E++[e])=lapE E:=by
 funext i j
 rw[oj,he];unfold ind;rw[Int.sub_self,EO,RM,Rm]
theorem xm:∀m k E,E.length=m->(∀e∈E,e.1<k+1/\e.2.1<k+1)->TW k E (det k (lapE E))
 |0,k,E,hm,_=>by
  obtain rfl:=YY.mp hm;cases k with
  |zero=>
   refine⟨[[]],S,λT=>?_,Z⟩;rw[XG];constructor
   .rintro rfl;exact⟨IsSet.nil _,Z,λi j hi hj=>by
     have:i=j:=J
     rw[this];exact .refl j⟩
   .intro h;exact YY.mp h.2.1
  |succ k=>
   refine⟨[],.nil,λT=>⟨λh=>(by cases h),λh=>?_⟩,?_⟩
   .have h1:=h.1.len;have h2:=h.2.1
    rw[Nf]at h1;lia
   .exact(dC (i:=0) J λj _=>rfl).symm
 |m+1,k,E,hm,hE=>by
  obtain⟨E',e,rfl⟩:∃E' e,E=E'++[e]:=⟨E.dropLast,E.getLast (λh=>by rw[h]at hm;cases hm),(EJ _).symm⟩;have Lb:E'.length=m:=by rw[Xu]at hm;simpa using hm
  have nU:∀f∈E',f.1<k+1/\f.2.1<k+1:=λf hf=>hE f (Yd _ hf);have he:=hE e S
  have ih:=xm m k E' Lb nU;by_cases hl:e.1=e.2.1
  .rw[c5 hl];exact nY nU hl ih
  .obtain⟨k',rfl⟩:∃k',k=k'+1:=⟨k-1,J⟩;obtain⟨a,b,ha,hb,XH,Vw⟩:∃a b,a<k'+1/\b<k'+2/\b≠a/\((e.1=a/\e.2.1=b)\/(e.1=b/\e.2.1=a)):=by
    by_cases c:e.1<k'+1
    .exact⟨e.1,e.2.1,c,he.2,λh=>hl h.symm,.inl ⟨Z,Z⟩⟩
    .exact⟨e.2.1,e.1,J,he.1,hl,.inr ⟨Z,Z⟩⟩
   have Sz:=xm m k' (Sy a b E') (by unfold Sy;rwa[Yb]) λf hf=>by
    obtain⟨g,hg,rfl⟩:=Yz.mp hf
    have:=nU g hg
    exact⟨RF ha hb XH this.1,RF ha hb XH this.2⟩
   rw[nV ha hb XH Vw];exact nW ha hb XH Vw ih Sz
def Vv(ps:Aa)(ws:Ac):List Ed:=List.zipWith (λp w=>(p.1.toNat,p.2.toNat,w)) ps ws
theorem cZ(h1:1<=n)(hw:ws.length=ps.length):IsT (n-1).toNat (Vv ps ws) T↔Zf n ps T:=by
 have hl:(Vv ps ws).length=ps.length:=by unfold Vv;rw[Nj];grind
 have hm:IsSet ps.length T->T.map (Tv<|Vv ps ws)=XR ps T:=λhs=>VW λz hz=>by
  have:=hs.all z hz
  unfold Tv Vv;rw[Ya,LK,Xw J,Xw (show z.toNat<ws.length by lia),Ya,Xw uD];rfl
 unfold IsT Zf;rw[hl];constructor
 .rintro⟨a,b,c⟩;rw[hm a]at c;exact⟨a,J,λi j hi hj=>c i j J uE⟩
 .rintro⟨a,b,c⟩;rw[hm a];exact⟨a,J,λi j hi hj=>c i j J J⟩
theorem Cr(h:∀e∈E,e.2.2=1):∀{T:Ac},(∀z∈T,0<=z/\z<(E.length:Int))->Uv E T=1
 |[],_=>rfl
 |z::T,hb=>by
  have hz:=hb z Xd;show(E.getD z.toNat (0,0,0)).2.2*Uv E T=1
  rw[Cr h λy hy=>hb y<|Yf _ hy,Na,Ya,Xw J];exact h _ (Ni _)
theorem nS{l:Ab}{f:Ac->Int}(h:∀T∈l,f T=1):(l.map f).sum=(l.length:Int):=by
 induction l with
 |nil=>rfl
 |cons x l ih=>
  rw[UI,JQ,ih λT hT=>h T<|Yf _ hT,h x Xd,Yt];lia
theorem Cq(g:Zz n ps)(ws:Ac):∀e∈Vv ps ws,e.1<(n-1).toNat+1/\e.2.1<(n-1).toNat+1:=λe he=>by
 unfold Vv at he;obtain⟨i,hi⟩:=VX he;rw[LK]at hi;have g1:=g.1
 cases h1:ps[i]? with
 |none=>rw[h1]at hi;cases hi
 |some p=>
  cases h2:ws[i]? with
  |none=>rw[h1,h2]at hi;cases hi
  |some w=>
   rw[h1,h2]at hi;obtain rfl:=Ye hi;obtain⟨a,b,c,d⟩:=g.2.2.2 p (Xi h1);exact⟨by show p.1.toNat<_;grind,by show p.2.toNat<_;lia⟩
theorem nR(g:Zz n ps){L:Ab}(hL:L.Nodup)(hm:∀l,l∈L↔Zf n ps l):det (n-1).toNat (lapE (Vv ps (List.replicate ps.length 1)))=(L.length:Int):=by
 have g1:=g.1;have hw:(List.replicate ps.length (1:Int)).length=ps.length:=YN
 obtain⟨M,a1,a2,a3⟩:=xm _ (n-1).toNat (Vv ps<|List.replicate ps.length 1) Z (Cq g _);have hl:(Vv ps<|List.replicate ps.length 1).length=ps.length:=by unfold Vv;rw[Nj,hw];grind
 have w1:∀e∈Vv ps (List.replicate ps.length (1:Int)),e.2.2=1:=λe he=>by
  unfold Vv at he;obtain⟨i,hi⟩:=VX he;rw[LK]at hi;cases h1:ps[i]? with
  |none=>rw[h1]at hi;cases hi
  |some p=>
   cases h2:(List.replicate ps.length (1:Int))[i]? with
   |none=>rw[h1,h2]at hi;cases hi
   |some w=>
    rw[h1,h2]at hi;obtain rfl:=Ye hi;exact y9 (Xi h2)
 rw[<-a3,nS λT hT=>Cr w1 ((a2 T).mp hT).1.all];have hp:M.Perm L:=(LM a1 hL).mpr λl=>by rw[a2,hm,cZ g1 hw]
 rw[hp.length_eq]
end My
namespace L2
open PySem PySem.Spec PyProof.Rows
section
variable{X:Cx}
inductive rGetL(K:Ad)(x:V)(y:V)(H:Hp)(Q:VK):Prop
 |mk (p xs i v:_) (_:x=.ref p) (_:y=.int i) (_:SqL K H p xs) (_:0<=i) (_:xs[i.toNat]?=some v) (_:Q v H)
theorem xk(K:Ad)(hk:X.K=K:=by rfl):En X (rGetL K):=by
 subst hk;intro pins s σ H o i ov iv Q I ro ri h;obtain⟨p,xs,j,z,rfl,rfl,hq,h0,he,q⟩:=h;cases ro;obtain⟨t,rfl⟩:=ri;obtain⟨XT,r,pl,hz⟩:=I.list hq;obtain⟨w,ew,MM⟩:=r.get he;have hl:=r.length
 have hn:=Jo;have Xn:=(Xr.mp he).1
 exact wpAny_getItem_list pl.isList h0 J (by simpa using ew) ⟨z,H,I,MM,q⟩
end
end L2
namespace My
open PySem L2
theorem nQ{g:TG}{tb:TS}{D:Ends}(KN:xs.length=ys.length)(Pv:Nat->St->Hp->Prop)(h0:Pv 0 σ H)(hl:∀i σ H,i<=xs.length->Pv i σ H->SqL K H a xs/\SqL K H b ys)
  (hs:∀(i:Nat) x y σ H (p:Addr),H p=none->xs[i]?=some x->ys[i]?=some y->Pv i σ H->g (.ref p) σ (upd H p<|.tup [x,y]) λσ2 H2=>tb {D with nx:=Pv<|i+1,ct:=Pv<|i+1,bk:=D.nx} σ2 H2)(hd:∀σ H,Pv xs.length σ H->D.nx σ H):
  ∃W:Nat->Nat->St->Hp->Prop,(∃m,W 0 m σ H)/\∀i m σ H,W i m σ H->
   ((FW K a b).stop i H/\D.nx σ H)\/((FW K a b).go i H/\∃N:St->Hp->Prop,(∀σ' H',N σ' H'->∃m',m'<m/\W (i+1) m' σ' H')/\∀x H',(FW K a b).yld i H x H'->g x σ H' λσ2 H2=>tb {D with nx:=N,ct:=N,bk:=D.nx} σ2 H2):=by
 refine⟨λi m σ H=>m=xs.length-i/\i<=xs.length/\Pv i σ H,⟨xs.length,S,Yj _,h0⟩,?_⟩;rintro i m σ H ⟨rfl,hi,p⟩;obtain⟨q,q2⟩:=hl i σ H hi p;by_cases Xn:i<xs.length
 .refine .inr ⟨⟨xs,ys,xs[i],ys[i]'(by lia),q,q2,by simp[Xn],Xw uD⟩,Pv<|i+1,λσ' H' p'=>⟨xs.length-(i+1),uE,Z,Xn,p'⟩,λx H' ⟨T,u,v,hT,ex,eH,hu,hv⟩=>?_⟩;subst ex eH;exact hs i u v σ H T hT (hu xs q) (hv ys q2) p
 .have e:i=xs.length:=J;subst e;exact .inl ⟨⟨xs,ys,q,q2,.inl<|XJ _⟩,hd σ H p⟩
structure TabAt(H0:Hp)(r:Addr)(n:Nat)(H:Hp)(ys:List V)(L:Ab):Prop where
 tab:H r=some (.lst ys)
 rows:Bears (LiV r H) ys L
 len:L.length=n
 all:∀l∈L,l.length=n
 nd:ys.Nodup
 new:∀A,V.ref A∈ys->H0 A=none
theorem TabAt.same(s:Same H H')(h:TabAt H0 r n H ys L):TabAt H0 r n H' ys L:=⟨s _ _ h.tab,h.rows.imp λ_ _ q=>q.same s,h.len,h.all,h.nd,h.new⟩
theorem TabAt.at(h:TabAt H0 r n H ys L){i:Nat}(hi:i<n):∃A l,ys[i]?=some (.ref A)/\L[i]?=some l/\H A=some (.lst (IL l))/\l.length=n/\H0 A=none/\A≠r:=by have hl:=h.len;obtain⟨l,e⟩:∃l,L[i]?=some l:=⟨_,Xw J⟩;obtain⟨v,e1,A,rfl,e2,e3⟩:=h.rows.2 i l e;exact⟨A,l,e1,e,e2,h.all l<|Xi e,h.new A<|Xi e1,e3⟩
theorem TabAt.put(h:TabAt H0 r n H ys L){l l':Ac}(e1:ys[i]?=some (.ref A))(e2:L[i]?=some l)(e3:A≠r)(hl:l'.length=n):TabAt H0 r n (upd H A (.lst (IL l'))) ys (L.set i l'):=by
 have hi:=(Xr.mp e2).1;have VB:=(Xr.mp e1).1
 refine⟨by rw[Zb (XI e3)];exact h.tab,⟨by rw[Tp];exact h.rows.1,λj m em=>?_⟩,by rw[Tp];exact h.len,λm hm=>?_,h.nd,h.new⟩
 .rw[EZ]at em;by_cases c:i=j
  .subst c;rw[if_pos Z,if_pos hi]at em;obtain rfl:=Ye em;exact⟨_,e1,A,Z,XS,e3⟩
  .rw[if_neg c]at em;obtain⟨v,f1,uw,rfl,f2,f3⟩:=h.rows.2 j m em;refine⟨_,f1,uw,Z,?_,f3⟩;rw[Zb]
   .exact f2
   .intro e;rw[e]at f1;exact c (IU h.nd e1 f1)
 .rcases List.mem_or_eq_of_mem_set hm with e|e
  .exact h.all m e
  .rw[e];exact hl
theorem nP{L:Ab}{l:Ac}(hi:L[i]?=some l)(hj:j<l.length)(a b:Nat):fnL (L.set i (l.set j x)) a b=if a=i/\b=j then x else fnL L a b:=by
 have VB:=(Xr.mp hi).1;unfold fnL;by_cases ha:a=i
 .subst ha;have e1:(L.set a<|l.set j x).getD a []=l.set j x:=by rw[Ya,EZ,if_pos Z,if_pos VB];rfl
  have e2:L.getD a []=l:=by rw[Ya,hi];rfl
  rw[e1,e2];by_cases hb:b=j
  .subst hb;rw[if_pos ⟨Z,Z⟩,Ya,EZ,if_pos Z,if_pos hj];rfl
  .rw[if_neg λh=>hb h.2,Ya,EZ,if_neg<|XI hb,<-Ya]
 .have e1:(L.set i<|l.set j x).getD a []=L.getD a []:=by rw[Ya,Ya,EZ,if_neg (XI ha)]
  rw[e1,if_neg λh=>ha h.1]
theorem four{A:Mx}{u v:Nat}{w:Int}(XH:u≠v)(a b:Nat){uw C D E:Mx}(h1:∀a b,uw a b=if a=u/\b=u then A u u+w else A a b)(h2:∀a b,C a b=if a=v/\b=v then uw v v+w else uw a b)(h3:∀a b,D a b=if a=u/\b=v then C u v-w else C a b)(h4:∀a b,E a b=if a=v/\b=u then D v u-w else D a b):E a b=A a b+w*(ind u v a*ind u v b):=by
 have nv:¬v=u:=XI XH;unfold ind;by_cases x1:a=u
 .subst x1;by_cases y1:b=a
  .subst y1;simp[h4,h3,h2,h1,XH,nv]
  .by_cases y2:b=v
   .subst y2;simp[h4,h3,h2,h1,XH,nv];lia
   .simp[h4,h3,h2,h1,XH,nv,y1,y2]
 .by_cases x2:a=v
  .subst x2;by_cases y1:b=u
   .subst y1;simp[h4,h3,h2,h1,XH,nv];omega
   .by_cases y2:b=a
    .subst y2;simp[h4,h3,h2,h1,XH,nv]
    .simp[h4,h3,h2,h1,XH,nv,y1,y2]
  .simp[h4,h3,h2,h1,XH,nv,x1,x2]
theorem nO{ps:Aa}{ws:Ac}{p:Int×Int}{w:Int}(hp:ps[i]?=some p)(hw:ws[i]?=some w):Vv (ps.take (i+1)) (ws.take (i+1))=Vv (ps.take i) (ws.take i)++[(p.1.toNat,p.2.toNat,w)]:=by
 have h1:=(Xr.mp hp).1;have h2:=(Xr.mp hw).1
 unfold Vv;rw[YJ,YJ,hp,hw];rw[List.zipWith_append (by rw[Yn,Yn];grind)];rfl
theorem Conn.image{f:Nat->Nat}(h:∀e∈es,Conn fs (f e.1) (f e.2))(c:Conn es i j):Conn fs (f i) (f j):=by
 induction c with
 |refl i=>exact .refl _
 |edge e=>exact h _ e
 |symm _ ih=>exact ih.symm
 |trans _ _ OU Sz=>exact OU.trans Sz
theorem nN(g:Zz n ps)(h:IsSet ps.length T)(c:∀i j,i<n.toNat->j<n.toNat->Conn (XR ps T) i j):n-1<=(T.length:Int):=by
 have g1:=g.1;have WE:=ZO (ns:=T) g h.all
 have h2:=(KS J WE).mpr c;have h3:=xF _ WE
 rw[show(XR ps T).length=T.length from Yb ..]at h3;lia
end My
namespace L2
open PySem
def QG(t:SetTable):Prop:=t.place.toList.Pairwise (·<·)
theorem xj{xs:Array Nat}(h:xs.toList.Pairwise (·<·)){i k a b:Nat}(nM:i<k)(ha:xs[i]?=some a)(hb:xs[k]?=some b):a<b:=by rw[<-YW]at ha hb;obtain⟨h1,e1⟩:=Xr.mp ha;obtain⟨h2,e2⟩:=Xr.mp hb;rw[<-e1,<-e2];exact Ka.mp h i k h1 h2 nM
theorem nL(h:xs.toList.Pairwise (·<·)):∀f lo hi,hi-lo<=f->lo<=hi->hi<=xs.size->(∀i v,xs[i]?=some v->i<lo->v<j)->(∀i v,xs[i]?=some v->hi<=i->j<=v)->
  SetTable.below.go xs j f lo hi<=xs.size/\∀i v,xs[i]?=some v->(i<SetTable.below.go xs j f lo hi↔v<j)
 |0,lo,hi,hf,hl,hs,a,b=>by
  have e:lo=hi:=uE;unfold SetTable.below.go;refine⟨J,λi v hv=>⟨a i v hv,λhvj=>Nat.lt_of_not_le λhc=>?_⟩⟩
  have:=b i v hv J
  lia
 |f+1,lo,hi,hf,hl,hs,a,b=>by
  unfold SetTable.below.go;by_cases c:lo<hi
  .rw[if_pos c];dsimp only;obtain⟨m,hm⟩:∃m,xs[(lo+hi)/2]?=some m:=⟨_,YH J⟩;have em:xs.getD ((lo+hi)/2) j=m:=by rw[YC,hm];rfl
   rw[em];by_cases d:m<j
   .rw[if_pos d];refine nL h f _ hi uE J hs (λi v hv Wh=>?_) b;by_cases e:i=(lo+hi)/2
    .rw[e,hm]at hv;exact Ye hv▸d
    .have:=xj h (show i<(lo+hi)/2 by lia) hv hm
     lia
   .rw[if_neg d];refine nL h f lo _ uE J J a λi v hv Wh=>?_;by_cases e:i=(lo+hi)/2
    .rw[e,hm]at hv
     have:=Ye hv
     lia
    .have:=xj h (show(lo+hi)/2<i by lia) hm hv
     lia
  .rw[if_neg c];refine⟨uE,λi v hv=>⟨a i v hv,λhvj=>Nat.lt_of_not_le λhc=>?_⟩⟩
   have:=b i v hv J
   lia
theorem xi(h:xs.toList.Pairwise (·<·))(j:Nat):SetTable.below xs j<=xs.size/\∀i v,xs[i]?=some v->(i<SetTable.below xs j↔v<j):=
 nL h xs.size 0 xs.size J (Yj _) (XJ _) (λi v _ h=>absurd h<|Ws _) λi v hv hi=>by rw[Fg hi]at hv;cases hv
theorem nK(h:xs.toList.Pairwise (·<·)){i v:Nat}(hv:xs[i]?=some v):SetTable.below xs v=i:=by
 obtain⟨h1,h2⟩:=xi h v;have a:¬i<SetTable.below xs v:=λq=>by have:=(h2 i v hv).mp q;lia
 refine ve J (yV λq=>?_);have Xn:=(gD.mp hv).1
 obtain⟨u,hu⟩:∃u,xs[SetTable.below xs v]?=some u:=⟨_,YH J⟩;have b:=xj h q hu hv
 have:=(h2 _ u hu).mpr b
 lia
theorem nJ(h:xs.toList.Pairwise (·<·)){i v:Nat}(hv:xs[i]?=some v):SetTable.below xs (v+1)=i+1:=by
 obtain⟨h1,h2⟩:=xi h (v+1);have a:=(h2 i v hv).mpr (NO v)
 refine ve (yV λq=>?_) a;obtain⟨u,hu⟩:∃u,xs[i+1]?=some u:=⟨_,YH J⟩;have b:=(h2 _ u hu).mp q
 have:=xj h (NO i) hv hu
 lia
theorem nI(h:xs.toList.Pairwise (·<·)):SetTable.below xs 0=0:=by obtain⟨h1,h2⟩:=xi h 0;refine Nat.le_zero.mp (yV λq=>?_);obtain⟨u,hu⟩:∃u,xs[0]?=some u:=⟨_,YH J⟩;exact Ws _ ((h2 _ u hu).mp q)
def FU(t:SetTable)(j:Nat):Prop:=t.place[SetTable.below t.place j]?≠some j
theorem nH(h:QG t)(hn:FU t j):QG (t.put j).1:=by
 obtain⟨h1,h2⟩:=xi h j;have up:∀i v,t.place[i]?=some v->SetTable.below t.place j<=i->j<v:=λi v hv hi=>by
  have a:¬v<j:=λq=>by have:=(h2 i v hv).mpr q;lia
  have b:v≠j:=λe=>hn (by rw[e]at hv;rwa[nK h hv]);lia
 show(SetTable.insertAt t.place (SetTable.below t.place j) j).toList.Pairwise (·<·);rw[SetTable.toList_insertAt];have dn:∀x∈t.place.toList.take (SetTable.below t.place j),x<j:=λx hx=>by
  obtain⟨i,hi⟩:=VX hx;rw[GQ]at hi;split at hi
  .rename_i q;rw[YW]at hi;exact(h2 i x hi).mp q
  .cases hi
 have ub:∀x∈t.place.toList.drop (SetTable.below t.place j),j<x:=λx hx=>by obtain⟨i,hi⟩:=VX hx;rw[Fd,YW]at hi;exact up _ x hi (Nat.le_add_right _ _)
 refine PN.mpr ⟨ED (List.take_sublist _ _) h,QP.mpr ⟨ub,ED (List.drop_sublist _ _) h⟩,λa ha b hb=>?_⟩;rcases Yg.mp hb with e|e
 .rw[e];exact dn a ha
 .exact Nat.lt_trans (dn a ha) (ub b e)
theorem cY(h:t.slot j=.empty\/t.slot j=.dummy):FU t j:=λe=>by
 have e2:t.slot j=.live (SetTable.below t.place j):=by unfold SetTable.slot;dsimp only;rw[if_pos (by rw[e];simp)]
 rw[e2]at h;rcases h with h|h<;>cases h
theorem nG{f:Nat->Int}:∀n p j d,(∀e,p.dummy=some e->FU t e)->SetTable.probe.go t f h n p=some (.empty j d)->FU t j/\∀e,d=some e->FU t e
 |0,p,j,d,_,h=>by cases h
 |n+1,p,j,d,hp,h=>by
  have cX:∀q:SetTable.Probe,(t.advance q).dummy=q.dummy:=λq=>by unfold SetTable.advance;split<;>rfl
  unfold SetTable.probe.go at h;split at h
  .rename_i hs;cases h;exact⟨cY<|.inl hs,hp⟩
  .rename_i hs;exact nG n _ j d (λe he=>by rw[cX]at he;cases he;exact cY<|.inr hs) h
  .split at h
   .cases h
   .exact nG n _ j d (λe he=>hp e<|by rwa[cX]at he) h
theorem nF{b:Bool}(e:t.freeSlot h=some (s,b)):FU t s:=by
 unfold SetTable.freeSlot at e;split at e
 .rename_i j d hp;obtain⟨a1,a2⟩:=nG _ _ j d (λe he=>by cases he) hp;have e1:=Xy Prod.fst (Ye e)
  dsimp only at e1;rw[<-e1];cases d with
  |none=>exact a1
  |some x=>exact a2 x rfl
 .cases e
theorem xh(t:SetTable)(n:Nat):QG (t.standIn n):=by show(Array.range n).toList.Pairwise (·<·);rw[Array.toList_range];exact Fi
theorem nE(h:QG t)(es:Array (Int×Value))(k:Int)(x:Value):QG (layNew t es k x).2.1/\(layNew t es k x).2.1.led=t.led:=by
 unfold layNew;split
 .rename_i s b e;dsimp only;unfold SetTable.orStandIn;split
  .exact⟨nH h<|nF e,Z⟩
  .exact⟨xh _ _,Z⟩
 .exact⟨xh _ _,Z⟩
theorem Zs8(h:QG t)(es:Array (Int×Value))(n:Nat):QG (relayAll t es n).2.1/\(relayAll t es n).2.1.led=t.led:=by
 unfold relayAll;split
 .rename_i t' order e;dsimp only;split
  .unfold SetTable.relaid SetTable.laid at e;cases ho:SetTable.layClean (SetTable.sizeAbove n-1) (es.map (·.1)) with
   |none=>rw[ho]at e;cases e
   |some owner=>
    rw[ho]at e;have e1:=Xy Prod.fst (Ye e)
    dsimp only at e1;rw[<-e1];refine⟨?_,Z⟩;show(List.map _<|List.filterMap _ _).toArray.toList.Pairwise (·<·)
    rw[List.toList_toArray,LI,List.pairwise_filterMap];refine Fi.imp λ{a b} Vw x hx y hy=>?_;have ex:x.1=a:=by
     cases q:owner.getD a none with
     |none=>rw[q]at hx;cases hx
     |some z=>rw[q]at hx;cases hx;rfl
    have ey:y.1=b:=by
     cases q:owner.getD b none with
     |none=>rw[q]at hy;cases hy
     |some z=>rw[q]at hy;cases hy;rfl
    rwa[ex,ey]
  .exact⟨xh _ _,Z⟩
 .exact⟨xh _ _,Z⟩
end L2
namespace L2
open PySem PySem.Spec PyProof.Rows
def SetR(P:Program)(w:World)(h:Heap)(a:Addr)(led:Bool)(uz:Int->Bool)(n:Nat):Prop:=
 ∃o es ep t,h.get? a=some o/\o.ExactSet/\o.data=.set es ep t/\ElemsOf (intKind P w) es.toList/\(∀z,uz z=true↔∃y∈es.toList,(intKind P w).is z y.2=true)/\es.size<scanBound/\t.fits es.size=true/\es.size=n/\QG t/\t.led=led
theorem SetR.at{uz:Int->Bool}(q:SetR P w h a led uz n)(k:∀o,h.get? a=some o->h'.get? a=some o):SetR P w h' a led uz n:=
 let ⟨o,es,ep,t,ho,r⟩:=q
 ⟨o,es,ep,t,k o ho,r⟩
section
variable{prog:Program}{w:World}{A:Around}{E:Ae}{s:Shared}
theorem cW{h:Heap}{o:Obj}{es:Array (Int×Value)}{ep:Nat}{t:SetTable}(ho:h.get? a=some o)(hx:o.ExactSet)(hd:o.data=.set es ep t)(fs:Array (Int×Value))(u:SetTable):
  (h.update a<|Obj.putSet fs u).get? a=some {o with data:=.set fs (ep+1) u}/\({o with data:=.set fs (ep+1) u}:Obj).ExactSet:=by have q:=VF (Obj.putSet fs u) ho (by rw[putSet_of fs u hd];rfl);rw[putSet_of fs u hd]at q;exact⟨q,hx⟩
theorem nB{gv:Bool->Sem Unit}(hgv:∀b s1 R,R () s1->wpAny (model prog w) A (gv b) R E s1)
 {o:Obj}{es fs:Array (Int×Value)}{ep:Nat}{t u:SetTable}(ho:s.heap.get? a=some o)(hx:o.ExactSet)(hd:o.data=.set es ep t)
  {uz:Int->Bool}(he:ElemsOf (intKind prog w) fs.toList)(hm:∀z,uz z=true↔∃y∈fs.toList,(intKind prog w).is z y.2=true)(hb:fs.size<scanBound)(hf:u.fits fs.size=true)(hr:QG u){dm:Bool}{R:Option Bool->Shared->Prop}
  (k:∀h',Heap.SameBut a s.heap h'->SetR prog w h' a u.led uz fs.size->R (some true) {s with heap:=h'}):
  wpAny (model prog w) A (do
   storeSet a fs u
   if (!dm&&u.tooFull)=true then do
    gv (relayAll u fs<|SetTable.grown fs.size).2.2
    storeSet a (relayAll u fs<|SetTable.grown fs.size).1 (relayAll u fs<|SetTable.grown fs.size).2.1
    pure (some true)
   else pure (some true)) R E s:=by
 obtain⟨h1,x1⟩:=cW ho hx hd fs u;have b1:=PM s.heap a (Obj.putSet fs u)
 refine XU (wpAny_storeSet_of ho hd ?_<|fits_of_scanBound hb);by_cases c:(!dm&&u.tooFull)=true
 .rw[if_pos c];have p:=relayAll_perm u fs (SetTable.grown fs.size)
  have f:=relayAll_fits u fs (SetTable.grown fs.size);obtain⟨r,l⟩:=Zs8 hr fs (SetTable.grown fs.size);generalize relayAll u fs (SetTable.grown fs.size)=uj at p f r l ⊢;obtain⟨gs,v,gave⟩:=uj;dsimp only at p f r l ⊢;have ez:gs.size=fs.size:=by rw[<-YE,p.length_eq,YE]
  obtain⟨h2,x2⟩:=cW h1 x1 Z gs v;refine XU (hgv _ _ _<|XU<|wpAny_storeSet_of h1 Z (Ym ?_)<|fits_of_scanBound<|by rwa[ez]);exact k _ (b1.trans<|PM _ a _) ⟨_,gs,_,v,h2,x2,Z,he.perm p,λz=>(hm z).trans ⟨λzz=>by obtain⟨y,hy,q⟩:=zz;exact⟨y,p.mem_iff.mpr hy,q⟩,λzz=>by obtain⟨y,hy,q⟩:=zz;exact⟨y,p.mem_iff.mp hy,q⟩⟩,by rw[ez];exact hb,f,ez,r,l⟩
 .rw[if_neg c];exact Ym (k _ b1 ⟨_,fs,_,u,h1,x1,Z,he,hm,hb,hf,Z,hr,Z⟩)
theorem nz{uz:Int->Bool}{z:Int}{x:Value}{R:Bool->Shared->Prop}(hz:(intKind prog w).is z x=true)(Ql:x.scannable=true)(hS:SetR prog w s.heap a led uz n)(room:n+1<scanBound)
  (k:∀h',Heap.SameBut a s.heap h'->SetR prog w h' a led (λy=>uz y||decide (y=z)) (if uz z then n else n+1)->R (!uz z) {s with heap:=h'}):
  wpAny (model prog w) A (setAddHashed a x<|(intKind prog w).hash z) R E s:=by
 obtain⟨o,es,ep,t,ho,hx,hd,he,hm,hb,hf,hn,hr,hl⟩:=hS;unfold setAddHashed setAddHashedIn;refine RN (XU<|GJ ho hd hf ?_);dsimp only;rw[if_pos (byScan_of Ql hb he)];unfold setAddByScan;refine XU (XU<|Gz<|XU<|wpAny_setScan_of hz ho hd hf he ?_);cases hw:List.findIdx? (λy=>(intKind prog w).is z y.2) es.toList with
 |some j=>
  obtain⟨j1,j2,_⟩:=List.findIdx?_eq_some_iff_getElem.mp hw;have yes:uz z=true:=(hm z).mpr ⟨es.toList[j],Ni j1,j2⟩
  have fin:=k s.heap (Heap.SameBut.refl a s.heap) ⟨o,es,ep,t,ho,hx,hd,he,λy=>by rw[uX,LJ,<-hm y];exact⟨λq=>q.elim id λq=>q▸yes,.inl⟩,hb,hf,by rw[yes];exact hn,hr,hl⟩
  rw[yes]at fin;dsimp only;exact Ym (Ym fin)
 |none=>
  have no:uz z=false:=GN.mpr λq=>by
   obtain⟨y,hy,hp⟩:=(hm z).mp q
   have:=List.findIdx?_eq_none_iff.mp hw y hy
   rw[hp]at this;cases this
  dsimp only;have p:=layNew_perm t es ((intKind prog w).hash z) x
  have f:=layNew_fits t es ((intKind prog w).hash z) x;obtain⟨r,l⟩:=nE hr es ((intKind prog w).hash z) x;generalize layNew t es ((intKind prog w).hash z) x=uj at p f r l ⊢;obtain⟨fs,u,dm,gave⟩:=uj;dsimp only at p f r l ⊢;rw[vj]at p;have ez:fs.size=n+1:=by rw[<-YE,p.length_eq,Xu,YE,hn];rfl
  have gw:∀(b:Bool){s1:Shared}{R':Unit->Shared->Prop},R' () s1->wpAny (model prog w) A (match b with|true=>rule "set.scan.the-table-gave-way" | false=>pure ()) R' E s1:=λb s1 R' q=>by
   cases b
   .exact Ym q
   .exact Gz q
  have fin:∀h',Heap.SameBut a s.heap h'->SetR prog w h' a led (λy=>uz y||decide (y=z)) fs.size->R true {s with heap:=h'}:=λh' q1 q2=>by have q:=k h' q1;rw[no]at q;rw[ez]at q2;exact q q2
  have KC:=(he.push hz Ql).perm p;have Td:∀y,(uz y||decide (y=z))=true↔∃v∈fs.toList,(intKind prog w).is y v.2=true:=mem_push_iff hz hm p
  have xg:fs.size<scanBound:=J;refine XU (gw _ ?_);have tail:∀v:SetTable,v.fits fs.size=true->QG v->v.led=led->wpAny (model prog w) A (do
    storeSet a fs v
    if (!dm&&v.tooFull)=true then do
     (match (relayAll v fs<|SetTable.grown fs.size).2.2 with|true=>rule "set.scan.the-table-gave-way" | false=>pure ())
     storeSet a (relayAll v fs<|SetTable.grown fs.size).1 (relayAll v fs<|SetTable.grown fs.size).2.1
     pure (some true)
    else pure (some true)) (λy s1=>wpAny (model prog w) A (match y with|some added=>pure added|none=>setAddHashedIn a x ((intKind prog w).hash z) 99999) R E s1) E s:=λv a1 a2 a3=>
   nB (gv:=λb=>match b with|true=>rule "set.scan.the-table-gave-way" | false=>pure ()) (λb s1 R' q=>gw b q) ho hx hd KC Td xg a1 a2 λh' q1 q2=>Ym (fin h' q1<|a3▸q2)
  split
  .refine XU ?_;rw[hashByValue_scannable 8 Ql];refine Ym ?_;split
   .exact tail u f r (l.trans hl)
   .exact tail _ (SetTable.fits_plain_off f) r (l.trans hl)
  .refine XU (Ym ?_);rw[if_pos Z];exact tail u f r (l.trans hl)
end
section
variable{prog:Program}{w:World}{A:Around}{R:Result->Shared->Prop}{I:Addr}{fp wr:List Addr}{G:Array GenState->Array GenState->Prop}{n:Nat}{P:Nat->Value->Prop}{St:Nat->Shared->Prop}
theorem cV(W:WalksS prog w A.in1 I fp wr G n P St)(b:Addr)(KA:b∉fp)(val:Nat->Int)(hv:∀i v,P i v->∃t,v=.int (val i) t)(hn:n+1<scanBound):
  ∀k i s,n-i=k->i<=n->St i s->SetR prog w s.heap b led (λz=>(firstMet val i).any (· == z)) (firstMet val i).length->
   (∀s',Moved (b::wr) G s s'->SetR prog w s'.heap b led (λz=>(firstMet val n).any (· == z)) (firstMet val n).length->R (.ok<|.ret .none) s')->
   codeAny (model prog w) A (.builtin "set.update.loop" ⟨[.ref b,.ref I],[]⟩) R s
 |0,i,s,hk,hi,st,hS,q=>by
  have e:i=n:=uE;subst e;refine RP F.entry_set_update_loop ?_;rw[JV vi _];show wpAny _ A.in1 (pyNext (.ref I) >>= _) _ _ s
  refine XU (W.done s _ _ st λs1 m=>?_);show wpAny _ A.in1 (ret Value.none) _ _ s1
  exact Ym (q s1 (m.mono λc hc=>.tail _ hc)<|hS.at λo ho=>m.heap b o (λhc=>KA<|W.sub _ hc) ho)
 |k+1,i,s,hk,hi,st,hS,q=>by
  have Xn:i<n:=uE;refine RP F.entry_set_update_loop ?_;rw[JV vi _];show wpAny _ A.in1 (pyNext (.ref I) >>= _) _ _ s
  refine XU (W.item i s _ _ Xn st λv s1 hP Jb m=>?_);obtain⟨t,rfl⟩:=hv i v hP;have Cp:=hS.at (h':=s1.heap) λo ho=>m.heap b o (λhc=>KA<|W.sub _ hc) ho
  show wpAny _ A.in1 (holding [Value.int (val i) t] (setAdd b<|.int (val i) t) >>= _) _ _ s1;refine XU (RN ?_);unfold setAdd;refine RN (XU<|(intKind prog w).pyHash (k:=val i) (intKind_is _ _ _ _) ?_);have fm:=firstMet_length_le val i
  refine nz (s:={s1 with toks:=s1.toks+1}) (intKind_is _ _ _ _) Z Cp J λh2 sb Dh=>?_;have hS3:SetR prog w h2 b led (λz=>(firstMet val<|i+1).any (· == z)) (firstMet val<|i+1).length:=by
   have e1:(λz=>(firstMet val<|i+1).any (· == z))=λy=>((firstMet val i).any (· == y)||decide (y=val i)):=funext λy=>by rw[EI,step_any]
   rwa[e1,EI,step_length]
  have kept:∀c o,c≠b->s1.heap.get? c=some o->h2.get? c=some o:=λc o hc e=>(sb.2 c hc).trans e;refine Ym ⟨Nd vi _,cV W b KA val hv hn k (i+1) _ uE Xn (W.frame _ s1 _ _ Jb (TH _) λc hc o e=>kept c o (λe'=>KA<|e'▸hc) e) hS3 λs2 m2 hS4=>?_⟩;exact q s2 (Moved.trans W.gtrans ((m.mono λc hc=>.tail _ hc).then_heap (TH _) λc o hc e=>kept c o (λe'=>hc<|e'▸.head _) e) m2) hS4
end
section
variable{prog:Program}{w:World}{A:Around}{E:Ae}{s:Shared}
def Kz(w:World):Obj:={cls:=.type "set",dict:=none,data:=.set #[] 0 (.fresh 0 0<|!w.params.followText "set-order")}
theorem ny(a:Value){Q:Ae}(k:Q (.ref s.heap.objs.size) {s with heap:=s.heap.push (Kz w)}):
  codeAny (model prog w) A (.call (.builtin "set.__new__") ⟨[.type "set",a],[]⟩) (wants Q E) s:=by
 refine codeAny_of_tree ?_;show wpAny _ A.in1 (checkBuiltinCall "set.__new__" ⟨[.type "set",a],[]⟩ >>= λ_=>again<|.builtin "set.__new__" ⟨[.type "set",a],[]⟩) _ _ s
 refine XU (SM (F.newCall_set_1 a)<|Ym ⟨Nd F.plain_set_new _,RP F.entry_set_new ?_⟩);rw[JV F.plain_set_new _];have CL:=sub_set_self
 unfold Builtin.«set.__new__» Builtin.Frozenset.newClass;obtain⟨hp,g,d,tk,os⟩:=s;dsimp only
 wp_walk
 refine GH (Ym ?_);simp only[newObj];refine XU (wpAny_alloc<|Ym<|Ym k)
theorem Zt8(e:h.get? a=some (Kz w)):SetR prog w h a (!w.params.followText "set-order") (λz=>(firstMet (λ_=>0) 0).any (· == z)) 0:=by refine⟨_,#[],0,_,e,⟨Z,Z,Z⟩,Z,λy hy=>(by cases hy),λz=>⟨λq=>(by cases q),λzz=>by obtain⟨y,hy,_⟩:=zz;exact(by cases hy)⟩,uB,by simp[SetTable.fits,SetTable.fresh,SetTable.fill],Z,.nil,Z⟩
theorem nu{h0:Heap}{Q:Ae}(hh:A.handled=none)(Mt:h0.get? b=some (Kz w))(hl:h0.IsList l items)(XH:l≠b)(hi:IntsAre items.toList ns)(hn:items.size+1<scanBound)
  (k:∀h' tk,SetR prog w h' b (!w.params.followText "set-order") (λz=>(firstMet (λi=>ns.getD i 0) items.size).any (· == z)) (firstMet (λi=>ns.getD i 0) items.size).length->(∀c o,c≠b->h0.get? c=some o->h'.get? c=some o)->Q .none {s with heap:=h',toks:=tk}):
  wpAny (model prog w) A.in1 (Builtin.«set.__init__» ⟨[.ref b,.ref l],[]⟩) (λfin s'=>match fin with | .done f=>wants Q E (.ok f) s' | .again c'=>c'.quiet=true/\codeAny (model prog w) A c' (wants Q E) s') (λe s'=>wants Q E (.error e) s') {s with heap:=h0}:=by
 have hT:Shared.TypeIs {s with heap:=h0} (.ref b) "set":=⟨_,Mt,Z⟩;have Qf:=hl
 obtain⟨⟨ocls,cU,cT,nt⟩,Qk,Tu,nl,nr⟩:=hl;simp only at Tu nr;subst Tu nr;have q1:=F.sub_list_set
 have q2:=F.sub_list_frozenset;have q3:(Value.type "list" == Value.type "dict")=false:=uB
 unfold Kz at Mt;unfold Builtin.«set.__init__» noKeywords Builtin.Frozenset.updateFrom;generalize hPI:pyIter=PI
 wp_walk
 subst hPI;refine yS Qf ?_;refine XU (yJ ?_);have nq:l<h0.objs.size:=Yq Qk
 have ltb:b<h0.objs.size:=Yq Mt;have bf:b∉[h0.objs.size,l]:=λq=>by
  rcases Yg.mp q with e|e
  .exact YB ltb e
  .exact XH (XG.mp e).symm
 refine cV ((Walks.list (A:=A.in1.in1) (by simp[hh]) _ l (YB nq) items).toS) b bf (led:=!w.params.followText "set-order") (λi=>ns.getD i 0) (λi v hv=>IntsAre.int_at hi i v<|by rw[YW];exact hv) hn (items.size-0) 0 _ J (Yj _)
  ⟨⟨_,Yk _ Z,Z,Z⟩,Qf.push _⟩ ?_ ?_
 .exact Zt8 (Xc _ Mt)
 .rintro⟨h',g',d',tk',sW⟩ m hS;have e1:g'=s.gens:=m.gens
  have e2:d'=s.drawn:=m.drawn;have e3:sW=s.os:=m.os
  subst e1 e2 e3;show wpAny _ _ _ _ _ _
  refine Ym ?_;show wpAny _ _ (ret Value.none) _ _ _
  refine Ym (k h' tk' hS λc o hc e=>m.heap c o (λq=>?_)<|Xc _ e);rcases Yg.mp q with e'|e'
  .exact hc e'
  .exact YB (Yq e) (XG.mp e')
set_option maxRecDepth 100000 in
set_option maxHeartbeats 3000000 in
theorem nj{Q:Ae}(hh:A.handled=none)(hl:s.heap.IsList l items)(hi:IntsAre items.toList ns)(hn:items.size+1<scanBound)
  (k:∀h' tk,SetR prog w h' s.heap.objs.size (!w.params.followText "set-order") (λz=>(firstMet (λi=>ns.getD i 0) items.size).any (· == z)) (firstMet (λi=>ns.getD i 0) items.size).length->(∀c o,s.heap.get? c=some o->h'.get? c=some o)->Q (.ref s.heap.objs.size) {s with heap:=h',toks:=tk}):
  wpAny (model prog w) A (call (.type "set") [.ref l]) Q E s:=by
 obtain⟨c,tl,hmro⟩:=Lx.mro;have a1:=Lx.made
 have a2:=Lx.sub;have a3:=Lx.notType
 have a4:=Lx.canCreate;have a5:=F.typeCall_set_1 (.ref l)
 refine EF (codeAny_of_tree ?_);show wpAny _ _ (callAny (.type "set") _) _ _ _
 refine Ym ⟨yT _ B,RP F.entry_type_call ?_⟩;rw[Around.under_plain (weight_type_call_type "set" [.ref l] []) Z]
 repeat any_goals first|assumption|wp_step
 refine Ly (ny (.ref l) (E:=E) (Q:=λob s1=>ob=.ref s.heap.objs.size/\s1={s with heap:=s.heap.push (Kz w)}) ⟨Z,Z⟩) λr s1 hr=>?_
 match r,hr with
 | .error e,hr=>exact hr
 | .ok (.ret ob),hr=>
  obtain⟨rfl,rfl⟩:=hr;have Mt:(s.heap.push<|Kz w).get? s.heap.objs.size=some (Kz w):=Yk _ rfl
  have hT:Shared.TypeIs {s with heap:=s.heap.push (Kz w)} (.ref s.heap.objs.size) "set":=⟨_,Mt,Z⟩;have a6:=Lx.init.lookup
  have a7:=Lx.init.bind (.ref s.heap.objs.size)
  repeat any_goals first|assumption|wp_step
  have nq:l<s.heap.objs.size:=by obtain⟨_,e,_⟩:=hl;exact Yq e
  refine Ly (codeAny_call_builtin (R:=wants (λr s2=>r=.none/\Q (.ref s.heap.objs.size) s2) E) Lx.init.plain F.entry_set_init<|check_set_init_1 hT<|nu (A:=_) (s:=s) ?_ Mt (hl.push _) (YB nq) hi hn λh' tk hS kp=>⟨Z,k h' tk hS λc o e=>kp c o (YB<|Yq e)<|Xc _ e⟩) λr2 s2 Wa=>?_
  .simp[hh]
  .match r2,Wa with
   | .error e,Wa=>exact Wa
   | .ok (.ret v),Wa=>
    obtain⟨rfl,q⟩:=Wa
    repeat any_goals first|assumption|wp_step
end
theorem cS:Manifest.owners.lookup (String.ofList ['r','o','t','a','r','e','t','i','_','t','e','s'].reverse)=some Manifest.sig_set_iterator:=by kernel_rfl
theorem WW:PySem.Slot "set_iterator" "__next__" "set_iterator.__next__":=
 .of (owner:="set_iterator") (n:="__next__") (by rw[NN,NQ];kernel_rfl) B B B
  (by first|exact .inl B|exact .inr B) (by rw[Ud];kernel_rfl)
theorem xf:entryFor table "set_iterator.__next__"=some Builtin.«set_iterator.__next__»:=entryFor_of_tree uH
theorem xc(a:Value):argsOk "set_iterator.__next__" ⟨[a],[]⟩:=by unfold argsOk;rw[EM (id:="set_iterator.__next__") (n:=['_','_','t','x','e','n','_','_']) (o:=['r','o','t','a','r','e','t','i','_','t','e','s']) uH cS];kernel_rfl
theorem cR:PySem.Slot "set_iterator" "__iter__" "set_iterator.__iter__":=
 .of (owner:="set_iterator") (n:="__iter__") (by rw[NN,NQ];kernel_rfl) B B B
  (by first|exact .inl B|exact .inr B) (by rw[Ud];kernel_rfl)
theorem ni(a:Value):argsOk "set_iterator.__iter__" ⟨[a],[]⟩:=by unfold argsOk;rw[EM (id:="set_iterator.__iter__") (n:=['_','_','r','e','t','i','_','_']) (o:=['r','o','t','a','r','e','t','i','_','t','e','s']) uH cS];kernel_rfl
theorem nh:entryFor table "set_iterator.__iter__"=some Builtin.«dict_keyiterator.__iter__»:=
 entryFor_alias (id':="dict_keyiterator.__iter__") uH (by first|rfl|decide +kernel|(unfold String.splitOn;simp +decide [String.splitOnAux])) B uH
theorem ng:Manifest.owners.lookup (String.ofList ['t','e','s'].reverse)=some Manifest.sig_set:=by kernel_rfl
theorem cQ:PySem.Slot "set" "__iter__" "set.__iter__":=
 .of (owner:="set") (n:="__iter__") (by rw[NN,NQ];kernel_rfl) B B B
  (by first|exact .inl B|exact .inr B) (by rw[Ud];kernel_rfl)
theorem nc(a:Value):argsOk "set.__iter__" ⟨[a],[]⟩:=by unfold argsOk;rw[EM (id:="set.__iter__") (n:=['_','_','r','e','t','i','_','_']) (o:=['t','e','s']) uH ng];kernel_rfl
theorem m9:entryFor table "set.__iter__"=some Builtin.«frozenset.__iter__»:=
 entryFor_alias (id':="frozenset.__iter__") uH (by first|rfl|decide +kernel|(unfold String.splitOn;simp +decide [String.splitOnAux])) B uH
def IsSi(h:Heap)(I a:Addr)(f:Value)(i n ep:Nat):Prop:=∃o,h.get? I=some o/\o.cls=.type "set_iterator"/\o.data=.fields #[f,rawInt (i:Int),.ref a,rawInt (n:Int),rawInt (ep:Int)]
theorem IsSi.ty{s:Shared}(x:IsSi s.heap I a f i n ep):s.TypeIs (.ref I) "set_iterator":=by obtain⟨o,p,q,_⟩:=x;exact⟨o,p,q⟩
theorem IsSi.keep(x:IsSi h I a f i n ep)(e:∀o,h.get? I=some o->h'.get? I=some o):IsSi h' I a f i n ep:=by obtain⟨o,p,q⟩:=x;exact⟨o,e _ p,q⟩
def SetIs(h:Heap)(a:Addr)(es:Array (Int×Value))(ep:Nat)(t:SetTable):Prop:=∃o,h.get? a=some o/\o.ExactSet/\o.data=.set es ep t
theorem SetIs.keep(x:SetIs h a es ep t)(e:∀o,h.get? a=some o->h'.get? a=some o):SetIs h' a es ep t:=by obtain⟨o,p,q⟩:=x;exact⟨o,e _ p,q⟩
section
variable{prog:Program}{w:World}{A:Around}{E:Ae}{s:Shared}
theorem m8{Q:Nat->Shared->Prop}(hn:n≠0)(k:∀i,i<n->∀d,Q i {s with drawn:=d}):wpAny M A (choose src n) Q E s:=
 λΓ p _=>⟨hn,k _ (Nat.mod_lt _<|Nat.pos_of_ne_zero hn) _⟩
theorem m7{α:Type}:∀{l:List α}{i:Nat}{y:α},l[i]?=some y->(y::l.eraseIdx i).Perm l
 |[],_,_,h=>by simp at h
 |x::l,0,y,h=>by obtain rfl:x=y:=Ye h;exact .rfl
 |x::l,i+1,y,h=>(List.Perm.swap x y<|l.eraseIdx i).trans ((m7 (l:=l) (i:=i) h).cons x)
theorem cP{α:Type}:∀(n:Nat)(xs:List α)(s:Shared)(Q:List α->Shared->Prop),n=xs.length->(∀ys d,ys.Perm xs->Q ys {s with drawn:=d})->wpAny M A (drawOrder n xs) Q E s
 |0,xs,s,Q,h,k=>by have e:xs=[]:=YY.mp h.symm;subst e;exact Ym (k [] s.drawn .rfl)
 |n+1,[],s,Q,h,k=>by cases h
 |n+1,x::xs,s,Q,h,k=>by show wpAny M A (choose .order (x::xs).length >>= _) Q E s;refine XU (m8 S λi hi d=>?_);obtain⟨y,hy⟩:∃y,(x::xs)[i]?=some y:=⟨_,Xw hi⟩;rw[hy];dsimp only;refine XU (cP n ((x::xs).eraseIdx i) _ _ (by rw[JN hi];lia) λys d' hp=>Ym<|k (y::ys) d' ?_);exact(hp.cons y).trans (m7 hy)
theorem cO{α:Type}{f:Nat->Nat}:∀(n k:Nat)(l:List α)(out:Array α),n=l.length->(pickOrder.go f n k l out).toList.Perm (out.toList++l)
 |0,k,l,out,h=>by rw[YY.mp h.symm,YI];exact .rfl
 |n+1,k,l,out,h=>by have hi:f k%l.length<l.length:=Nat.mod_lt _ J;obtain⟨y,hy⟩:∃y,l[f k%l.length]?=some y:=⟨_,Xw hi⟩;unfold pickOrder.go;rw[hy];dsimp only;refine(cO n (k+1) _ _<|by rw[JN hi];lia).trans ?_;rw[vj,Wd];refine EE _ ?_;exact m7 hy
theorem cN{Q:Ae}(hr:IsSi s.heap I a f i n ep)(h:Q (.ref I) s):wpAny (model prog w) A (pyIter (.ref I)) Q E s:=by
 refine uW hr.ty cR (PJ cR hr.ty nh ?_<|ni _);show wpAny _ _ (ret<|.ref I) _ _ s
 exact Ym ⟨_,Z,"set_iterator",_,hr.ty,WW.lookup,h⟩
def FT(prog:Program)(w:World)(a:Addr)(es:Array (Int×Value))(ep:Nat)(t:SetTable)(ord:Ag)(sl:Nat->Nat):Prop:=
 ∀A E s i Q,SetIs s.heap a es ep t->i<=ord.length->Q ((ord[i]?).map λx=>(x,sl<|i+1)) s->wpAny (model prog w) A (setNext a (sl i) i ep) Q E s
theorem m6{sl:Nat->Nat}{i:Nat}{x:Value}{Q:Option Value->Shared->Prop}(hN:FT prog w a es ep t ord sl)(hS:SetIs s.heap a es ep t)(hf:t.fits es.size=true)(hi:IsSi s.heap I a (rawInt (sl i:Nat)) i es.size ep)(hx:ord[i]?=some x)
  (k:∀h',IsSi h' I a (rawInt (sl (i+1):Nat)) (i+1) es.size ep->Heap.SameBut I s.heap h'->Q (some x) {s with heap:=h'}):wpAny (model prog w) A (pyNext<|.ref I) Q E s:=by
 obtain⟨o,ho,hc,hd⟩:=id hi;obtain⟨oa,Ky,m5,QF⟩:=id hS;unfold pyNext;refine XU (LD<|GR (name:=Str.ofString "__next__") hi.ty WW<|PJ WW hi.ty xf ?_<|xc _);unfold Builtin.«set_iterator.__next__»;refine XU (SM (a:=(Value.ref I,[])) Z ?_);dsimp only;refine XU (yH ho hd ?_);dsimp only[rawInt];refine XU (Fb Ky QF hf ?_);rw[if_neg S];rw[YA,YA,YA];refine XU (hN _ _ s i _ hS (Nb (Xr.mp hx).1) ?_);rw[hx];dsimp only[Option.map_some];refine XU (Ue ho hd S ?_);have UK:=VF (Obj.mapFields λvs=>vs.setIfInBounds 0<|rawInt (sl (i+1):Nat)) ho (Rj<|RR hd _)
 refine XU (Ue UK (RR hd _) S ?_);refine Ym ⟨x,Z,Ym<|k _ ⟨_,VF _ UK<|Rj<|RR (RR hd _) _,?_,?_⟩<|(PM ..).trans (PM ..)⟩
 .rw[yR,yR];exact hc
 .rw[RR (RR hd _)];simp;rfl
theorem mZ{sl:Nat->Nat}{Q:Option Value->Shared->Prop}(hh:A.handled=none)(hN:FT prog w a es ep t ord sl)(hS:SetIs s.heap a es ep t)(hf:t.fits es.size=true)(hi:IsSi s.heap I a (rawInt (sl ord.length:Nat)) ord.length es.size ep)
  (k:∀h',Heap.ExtBut I s.heap h'->Q none {s with heap:=h'}):wpAny (model prog w) A (pyNext<|.ref I) Q E s:=by
 obtain⟨o,ho,hc,hd⟩:=id hi;obtain⟨oa,Ky,m5,QF⟩:=id hS;unfold pyNext;refine XU (LD<|GR (name:=Str.ofString "__next__") hi.ty WW<|PJ WW hi.ty xf ?_<|xc _);unfold Builtin.«set_iterator.__next__»;refine XU (SM (a:=(Value.ref I,[])) Z ?_);dsimp only;refine XU (yH ho hd ?_);dsimp only[rawInt];refine XU (Fb Ky QF hf ?_);rw[if_neg S];rw[YA,YA,YA];refine XU (hN _ _ s ord.length _ hS (XJ _) ?_);rw[Vs (XJ _)];dsimp only[Option.map_none];refine XU (Ue ho hd S ?_);show wpAny _ _ (newExc (.type "StopIteration") [] >>= _) _ _ _
 refine XU ?_;simp only[newExc,newTuple];refine XU (Qr ?_<|by size_fits);refine XU (m:=firstArgMember _ _) (SM (a:=Value.none) (by first|rfl|(simp only[firstArgMember];rfl)) ?_)
 refine Qr ?_ (by size_fits);simp only[raiseNew];refine XU (wpAny_handled ?_);rw[show A.in1.handled=none from hh];refine XU (Ym<|wpAny_throw ?_);refine XU (GI (T:="StopIteration") (b:=true) ⟨_,Yk _ Z,Z⟩ isSubtype_stop ?_);exact Ym (k _<|(((PM ..).extBut).push _).push _)
theorem mY{sl:Nat->Nat}(hh:A.handled=none)(hN:FT prog w a es ep t ord sl)(hf:t.fits es.size=true)(XH:a≠I):
  Walks prog w A I [I,a] [I] ord.length (λi v=>ord[i]?=some v) (λi h=>i<=ord.length/\IsSi h I a (rawInt (sl i:Nat)) i es.size ep/\SetIs h a es ep t) where
 sub:=λb hb=>Yg.mpr (.inl<|XG.mp hb)
 frame:=λ_ _ _ x hk=>⟨x.1,x.2.1.keep λo e=>hk I S o e,x.2.2.keep λo e=>hk a S o e⟩
 item:=λi s Q E hi ⟨_,x1,x2⟩ hQ=>by have hx:ord[i]?=some (ord[i]'hi):=Xw hi;exact m6 hN x2 hf x1 hx λh' y hs=>hQ _ h' s.toks hx ⟨hi,y,x2.keep λo e=>(hs.2 a XH).trans e⟩ λb o hb eo=>hs.extBut b o (λe=>hb<|by simp[e]) eo
 done:=λs Q E zz hQ=>by obtain⟨_,x1,x2⟩:=zz;exact mZ hh hN x2 hf x1 λh' he=>hQ h' s.toks λb o hb eo=>he b o (λe=>hb<|by simp[e]) eo
 self:=λ_ _ _ _ x hQ=>cN x.2.1 hQ
theorem mX(hf:t.fits es.size=true)(hr:QG t)(hb:w.params.followText "set-order"=false)(hl:t.led=true)(hd:(!t.plain&&decide (es.size>1))=false):
  FT prog w a es ep t (es.toList.map (·.2)) (λi=>if i=0 then 0 else (t.place.getD (i-1) 0)+1):=by
 intro A E s i Q ⟨o,ho,hx,QF⟩ hi q;have hps:t.place.size=es.size:=by unfold SetTable.fits at hf;simp only[JU,VE]at hf;exact hf.1
 rw[Yb,YE]at hi;unfold setNext;refine XU (GJ ho QF hf ?_);dsimp only;refine XU ?_;unfold setsByText;refine XU (GH<|Ym ?_);show wpAny _ _ (if (w.params.followText "set-order")=true then _ else _) _ _ _
 rw[if_neg (by rw[hb];decide)];show wpAny _ _ (if (!t.plain&&decide (es.size>1))=true then _ else _) _ _ _
 rw[if_neg (by rw[hd];decide)];refine XU ?_;show wpAny _ _ (if (!t.led && !es.isEmpty)=true then _ else _) _ _ _
 rw[if_neg (by rw[hl];simp)];refine Ym ?_;have eb:SetTable.below t.place (if i=0 then 0 else (t.place.getD (i-1) 0)+1)=i:=by
  by_cases c:i=0
  .rw[if_pos c,c];exact nI hr
  .rw[if_neg c];obtain⟨v,hv⟩:∃v,t.place[i-1]?=some v:=⟨_,YH J⟩;have e:t.place.getD (i-1) 0=v:=by rw[YC,hv];rfl
   rw[e,nJ hr hv];lia
 rw[eb];refine Ym ?_;by_cases c:i<es.size
 .obtain⟨v,hv⟩:∃v,t.place[i]?=some v:=⟨_,YH J⟩;obtain⟨y,hy⟩:∃y,es[i]?=some y:=⟨_,YH c⟩;have e:t.place.getD i 0=v:=by rw[YC,hv];rfl
  rw[Yl,YW,hy]at q;rw[hv,hy];simp only[vf,vo,e,if_neg (Nat.succ_ne_zero i)]at q;exact q
 .have e1:es[i]?=none:=Fg J;rw[Yl,YW,e1]at q;rwa[e1]
theorem ZA8(hf:t.fits es.size=true)(hb:w.params.followText "set-order"=true):
  FT prog w a es ep t ((pickOrder (w.params.setOrder a ep) es).toList.map (·.2)) (λ_=>0):=by
 intro A E s i Q ⟨o,ho,hx,QF⟩ hi q;unfold setNext;refine XU (GJ ho QF hf ?_);dsimp only;refine XU ?_;unfold setsByText;refine XU (GH<|Ym ?_);show wpAny _ _ (if (w.params.followText "set-order")=true then _ else _) _ _ _
 rw[if_pos hb,if_neg S];refine XU ?_;unfold setWalk;refine XU (GJ ho QF hf ?_);dsimp only;refine XU ?_;unfold setsByText;refine XU (GH<|Ym ?_);show wpAny _ _ (if (w.params.followText "set-order")=true then _ else _) _ _ _
 rw[if_pos hb];refine XU (GH<|Ym ?_);rw[Yl,YW,Option.map_map]at q;exact Ym q
def IsPl(h:Heap)(b:Addr)(pl:List Nat):Prop:=∃o n,h.get? b=some o/\o.data=.seq (pl.map λ(i:Nat)=>rawInt (i:Int)).toArray n
theorem IsPl.keep(x:IsPl h b pl)(e:∀o,h.get? b=some o->h'.get? b=some o):IsPl h' b pl:=by obtain⟨o,n,p,q⟩:=x;exact⟨o,n,e _ p,q⟩
theorem mW{i j:Nat}{x:Int×Value}{Q:Option Value->Shared->Prop}(hS:SetIs s.heap a es ep t)(hf:t.fits es.size=true)(hi:IsSi s.heap I a (.ref b) i es.size ep)(hb:IsPl s.heap b pl)(hj:pl[i]?=some j)(hx:es[j]?=some x)
  (k:∀h',IsSi h' I a (.ref b) (i+1) es.size ep->Heap.SameBut I s.heap h'->Q (some x.2) {s with heap:=h'}):wpAny (model prog w) A (pyNext<|.ref I) Q E s:=by
 obtain⟨o,ho,hc,hd⟩:=id hi;obtain⟨oa,Ky,m5,QF⟩:=id hS;obtain⟨ob,nb,Pk,Sl⟩:=hb;unfold pyNext;refine XU (LD<|GR (name:=Str.ofString "__next__") hi.ty WW<|PJ WW hi.ty xf ?_<|xc _);unfold Builtin.«set_iterator.__next__»;refine XU (SM (a:=(Value.ref I,[])) Z ?_);dsimp only;refine XU (yH ho hd ?_);dsimp only[rawInt];refine XU (Fb Ky QF hf ?_);rw[if_neg S];refine XU (JR Pk Sl ?_);dsimp only;have e:(pl.map λ(i:Nat)=>rawInt (i:Int)).toArray[(i:Int).toNat]?=some (.int (j:Int) 0):=by rw[YA,fU,Yl,hj];rfl
 rw[e];dsimp only;rw[YA,YA];refine XU ?_;unfold setNextDrawn;refine XU (GJ Ky QF hf ?_);dsimp only;rw[if_neg S,hx];refine Ym ?_;refine XU (Ue ho hd S ?_);refine Ym ⟨x.2,Z,Ym<|k _ ⟨_,VF _ ho<|Rj<|RR hd _,?_,?_⟩<|PM ..⟩
 .rw[yR];exact hc
 .rw[RR hd];simp;rfl
theorem mV{Q:Option Value->Shared->Prop}(hh:A.handled=none)(hS:SetIs s.heap a es ep t)(hf:t.fits es.size=true)(hi:IsSi s.heap I a (.ref b) pl.length es.size ep)(hb:IsPl s.heap b pl)
  (k:∀h',Heap.ExtBut I s.heap h'->Q none {s with heap:=h'}):wpAny (model prog w) A (pyNext<|.ref I) Q E s:=by
 obtain⟨o,ho,hc,hd⟩:=id hi;obtain⟨oa,Ky,m5,QF⟩:=id hS;obtain⟨ob,nb,Pk,Sl⟩:=hb;unfold pyNext;refine XU (LD<|GR (name:=Str.ofString "__next__") hi.ty WW<|PJ WW hi.ty xf ?_<|xc _);unfold Builtin.«set_iterator.__next__»;refine XU (SM (a:=(Value.ref I,[])) Z ?_);dsimp only;refine XU (yH ho hd ?_);dsimp only[rawInt];refine XU (Fb Ky QF hf ?_);rw[if_neg S];refine XU (JR Pk Sl ?_);dsimp only;have e:(pl.map λ(i:Nat)=>rawInt (i:Int)).toArray[(pl.length:Int).toNat]?=none:=by rw[YA,fU];exact Vs S
 rw[e];dsimp only;refine XU (Ue ho hd S ?_);have UK:=VF (Obj.mapFields λvs=>vs.setIfInBounds 0<|rawInt 0) ho (Rj<|RR hd _)
 refine XU (Ue UK (RR hd _) S ?_);show wpAny _ _ (newExc (.type "StopIteration") [] >>= _) _ _ _
 refine XU ?_;simp only[newExc,newTuple];refine XU (Qr ?_<|by size_fits);refine XU (m:=firstArgMember _ _) (SM (a:=Value.none) (by first|rfl|(simp only[firstArgMember];rfl)) ?_)
 refine Qr ?_ (by size_fits);simp only[raiseNew];refine XU (wpAny_handled ?_);rw[show A.in1.handled=none from hh];refine XU (Ym<|wpAny_throw ?_);refine XU (GI (T:="StopIteration") (b:=true) ⟨_,Yk _ Z,Z⟩ isSubtype_stop ?_);exact Ym (k _<|((((PM ..).trans (PM ..)).extBut).push _).push _)
theorem mU(hh:A.handled=none)(hp:pl.Perm (List.range es.size))(hf:t.fits es.size=true)(XH:a≠I)(hnb:b≠I):
  Walks prog w A I [I,a,b] [I] pl.length (λi v=>(pl.filterMap λj=>(es[j]?).map (·.2))[i]?=some v) (λi h=>i<=pl.length/\IsSi h I a (.ref b) i es.size ep/\SetIs h a es ep t/\IsPl h b pl) where
 sub:=λc hc=>Yg.mpr (.inl<|XG.mp hc)
 frame:=λ_ _ _ x hk=>⟨x.1,x.2.1.keep λo e=>hk I S o e,x.2.2.1.keep λo e=>hk a S o e,x.2.2.2.keep λo e=>hk b S o e⟩
 item:=λi s Q E hi ⟨_,x1,x2,x3⟩ hQ=>by
  have hj:pl[i]?=some (pl[i]'hi):=Xw hi;have Xn:=YK.mp (hp.mem_iff.mp<|Xi hj)
  have hx:es[pl[i]'hi]?=some (es[pl[i]'hi]'Xn):=YH Xn;have fm:∀(l:List Nat),(∀j∈l,j<es.size)->l.filterMap (λj=>(es[j]?).map (·.2))=l.map λj=>(es.getD j (0,.none)).2:=λl hl=>by
   induction l with
   |nil=>rfl
   |cons y l ih=>
    have hy:=hl y Xd;rw[y6,UI,ih λj h=>hl j<|Yf _ h,YH hy,YC,YH hy];rfl
  have hv:(pl.filterMap λj=>(es[j]?).map (·.2))[i]?=some (es[pl[i]'hi]'Xn).2:=by rw[fm pl λj hj=>YK.mp<|hp.mem_iff.mp hj,Yl,hj,vf,YC,hx];rfl
  exact mW x2 hf x1 x3 hj hx λh' y hs=>hQ _ h' s.toks hv ⟨hi,y,x2.keep λo e=>(hs.2 a XH).trans e,x3.keep λo e=>(hs.2 b hnb).trans e⟩ λc o hc eo=>hs.extBut c o (λe=>hc<|by simp[e]) eo
 done:=λs Q E zz hQ=>by obtain⟨_,x1,x2,x3⟩:=zz;exact mV hh x2 hf x1 x3 λh' he=>hQ h' s.toks λc o hc eo=>he c o (λe=>hc<|by simp[e]) eo
 self:=λ_ _ _ _ x hQ=>cN x.2.1 hQ
end
section
variable{prog:Program}{w:World}{A uw:Around}{E:Ae}{s:Shared}
theorem SetIs.ty(x:SetIs s.heap a es ep t):s.TypeIs (.ref a) "set":=by obtain⟨o,p,q,_⟩:=x;exact⟨o,p,q.1⟩
theorem mS{Q:Ae}(hh:A.handled=none)(hS:SetIs s.heap a es ep t)(hf:t.fits es.size=true)(hr:QG t)(hl:t.led=!w.params.followText "set-order")(hz:es.size<=sizeLine)
  (k:∀(I:Addr)(h':Heap) d (ord:Ag) (fp:List Addr) (St:Nat->Heap->Prop),ord.Perm (es.toList.map (·.2))->Walks prog w A I fp [I] ord.length (λi v=>ord[i]?=some v) St->St 0 h'->(∀b∈fp,b<h'.objs.size/\(b=a\/s.heap.objs.size<=b))->I∈fp->s.heap.objs.size<=I->(∀c o,s.heap.get? c=some o->h'.get? c=some o)->Q (.ref I) {s with heap:=h',drawn:=d}):
  wpAny (model prog w) uw (pyIter<|.ref a) Q E s:=by
 obtain⟨o,ho,hx,hd⟩:=id hS;have Kx:a<s.heap.objs.size:=Yq ho
 refine uW hS.ty cQ (PJ cQ hS.ty m9 ?_<|nc _);unfold Builtin.«frozenset.__iter__»;refine XU (SM (a:=a) rfl ?_);refine XU ?_;unfold Builtin.Frozenset.sizeOf;refine XU (Fb ho hd hf<|Ym ?_);refine XU ?_;unfold setDrawn;refine XU (GJ ho hd hf ?_);dsimp only;refine XU ?_;unfold setsByText;refine XU (GH<|Ym<|Ym ?_);have num:∀ord sl,sl 0=0->FT prog w a es ep t ord sl->ord.Perm (es.toList.map (·.2))->wpAny (model prog w) uw.in1 (pure (rawInt 0) >>= λfirst=>setEpoch a >>= λe=>newFields "set_iterator" [first,rawInt 0,.ref a,rawInt (es.size:Int),rawInt (e:Int)] >>= λit=>ret it)
   (λfin s'=>∃v,fin=Fin.done (Flow.ret v)/\∃T' r,s'.TypeIs v T'/\typeLookup (Value.type T') (Str.ofString "__next__")=pure (some r)/\Q v s') E s:=λord sl h0 hN hp=>by
  refine XU (Ym<|XU<|wpAny_setEpoch_of ho hd hf<|XU ?_);unfold newFields;refine Qr ?_ (by size_fits);have hI:IsSi (s.heap.push {cls:=.type "set_iterator",data:=.fields [rawInt 0,rawInt 0,.ref a,rawInt (es.size:Int),rawInt (ep:Int)].toArray}) s.heap.objs.size a (rawInt (sl 0:Nat)) 0 es.size ep:=⟨_,Yk _ Z,Z,by rw[h0];rfl⟩
  refine Ym ⟨_,Z,"set_iterator",_,IsSi.ty (s:={s with heap:=_}) hI,WW.lookup,?_⟩;have ne:a≠s.heap.objs.size:=YB Kx
  refine k _ _ s.drawn ord _ _ hp (mY hh hN hf ne) ⟨Yj _,hI,hS.keep λo e=>Xc _ e⟩ (λb hb=>?_) S (XJ _) λc o e=>Xc _ e;rw[UH];rcases Yg.mp hb with e|e
  .rw[e];exact⟨NO _,.inr<|XJ _⟩
  .rw[XG.mp e];exact⟨GP Kx,.inl Z⟩
 by_cases hb:w.params.followText "set-order"=true
 .rw [if_neg (by show ¬(!w.params.followText "set-order" && _)=true;rw[hb];simp)];refine num _ (λ_=>0) Z (ZA8 hf hb) ?_
  have:=cO (f:=w.params.setOrder a ep) es.size 0 es.toList #[] (by rw[YE])
  exact this.map _
 .have TZ:w.params.followText "set-order"=false:=by simpa using hb
  rw[TZ]at hl;by_cases c:(!t.plain&&decide (es.size>1))=true
  .rw [if_pos (by show(!w.params.followText "set-order" && (!t.plain&&decide (es.size>1)))=true;rw[TZ,c];rfl)];refine XU (cP es.size (List.range es.size) s _ (by rw[PL]) λpl d hp=>?_);have UL:pl.length=es.size:=by rw[hp.length_eq,PL]
   refine XU (wpAny_newTuple ?_<|by rwa[Yb,UL]);have hoS:∀(h:Heap) o,h.get? a=some o->(h.push {cls:=.type "tuple",data:=.seq (List.map (λi=>rawInt ((i:Nat):Int)) pl).toArray}).get? a=some o:=λh o e=>Xc _ e
   refine XU (wpAny_setEpoch_of (hoS s.heap o ho) hd hf<|XU ?_);unfold newFields;refine Qr ?_ (by size_fits);have ne:a≠s.heap.objs.size:=YB Kx
   generalize CQ:s.heap.push {cls:=.type "tuple",data:=.seq (List.map (λi=>rawInt ((i:Nat):Int)) pl).toArray}=h1;have s1:h1.objs.size=s.heap.objs.size+1:=by rw[<-CQ];exact UH ..
   have Co:∀c o,s.heap.get? c=some o->h1.get? c=some o:=λc o e=>by rw[<-CQ];exact Xc _ e
   have Ms:IsPl h1 s.heap.objs.size pl:=by rw[<-CQ];exact⟨_,0,Yk _ Z,Z⟩
   have hI:IsSi (h1.push {cls:=.type "set_iterator",data:=.fields [Value.ref s.heap.objs.size,rawInt 0,.ref a,rawInt (es.size:Int),rawInt (ep:Int)].toArray}) h1.objs.size a (.ref s.heap.objs.size) 0 es.size ep:=⟨_,Yk _ Z,Z,Z⟩;refine Ym ⟨_,Z,"set_iterator",_,IsSi.ty (s:={s with heap:=_,drawn:=d}) hI,WW.lookup,?_⟩;have OI:(pl.filterMap λj=>(es[j]?).map (·.2)).Perm (es.toList.map (·.2)):=by refine(hp.filterMap _).trans ?_;rw[<-filterMap_getElem?_range es,List.map_filterMap]
   have Qk:(pl.filterMap λj=>(es[j]?).map (·.2)).length=pl.length:=by rw[OI.length_eq,Yb,YE,UL]
   have W:=mU (prog:=prog) (w:=w) (A:=A) (I:=h1.objs.size) (a:=a) (b:=s.heap.objs.size) (es:=es) (ep:=ep) (t:=t) hh hp hf (by rw[s1];exact YB<|GP Kx) (by rw[s1];exact YB<|NO _);rw[<-Qk]at W;refine k _ _ d _ _ _ OI W ⟨Yj _,hI,hS.keep λo e=>Xc _<|Co _ o e,Ms.keep λo e=>Xc _ e⟩ (λb hb=>?_) S (by rw[s1];exact TH _) λc o e=>Xc _ (Co c o e);rw[UH,s1];rcases Yg.mp hb with e|e
   .rw[e,s1];exact⟨NO _,.inr<|TH _⟩
   .rcases Yg.mp e with e|e
    .rw[e];exact⟨GP<|GP Kx,.inl Z⟩
    .rw[XG.mp e];exact⟨GP<|NO _,.inr<|XJ _⟩
  .have c':(!t.plain&&decide (es.size>1))=false:=by simpa using c
   rw[if_neg (by show ¬(!w.params.followText "set-order" && (!t.plain&&decide (es.size>1)))=true;rw[c'];simp)];exact num _ _ Z (mX hf hr TZ hl c') .rfl
end
theorem mR:typeLookup (.type "set") "__len__"=pure (some (.builtin "set.__len__")):=by rw[NN,NQ];kernel_rfl
section
variable{prog:Program}{w:World}{A:Around}{E:Ae}{s:Shared}
theorem mQ{r:Addr}{Q:Bool->Shared->Prop}(hT:s.TypeIs (.ref r) "set")(h:Q false s):wpAny (model prog w) A (Builtin.List.listLengthHint (.ref r)) Q E s:=by
 unfold Builtin.List.listLengthHint;refine XU (GG hT mR ?_);generalize Dj:("set.__len__":String)=qz
 wp_delta
 rw[show splitId qz=some ("set","__len__") from by subst Dj;decide +kernel];subst Dj;refine XU (GI (T:="set") (b:=true) hT sub_set_self ?_);show wpAny _ A (typeOf (Value.ref r) >>= _) _ _ _
 exact XU (EL (T:="set") hT<|Ym h)
theorem Zc6{Q:List Value->Shared->Prop}(hh:A.handled=none)(hS:SetIs s.heap a es ep t)(hf:t.fits es.size=true)(hr:QG t)(hl:t.led=!w.params.followText "set-order")(hz:es.size<=sizeLine)
  (k:∀(out:Ag) h' tk d,out.Perm (es.toList.map (·.2))->s.heap.objs.size<=h'.objs.size->(∀c o,s.heap.get? c=some o->h'.get? c=some o)->Q out {s with heap:=h',toks:=tk,drawn:=d}):wpAny (model prog w) A (collect<|.ref a) Q E s:=by
 have II:(s.heap.push<|seqObj "list" #[] 0).get? s.heap.objs.size=some (seqObj "list" #[] 0):=Yk _ rfl;have Cp:SetIs (s.heap.push<|seqObj "list" #[] 0) a es ep t:=hS.keep λo e=>Xc _ e
 have Kx:a<s.heap.objs.size:=by obtain⟨_,e,_⟩:=hS;exact Yq e
 unfold collect;refine XU (yJ<|RP uQ ?_);show wpAny _ _ (newList [] >>= λv=>again<|.builtin "list.__iadd__" ⟨[v,.ref a],[]⟩) _ _ s
 refine XU (JP<|Ym ⟨yT _ B,RP entry_list_iadd' ?_⟩);show wpAny _ _ (Builtin.List.listExtendWith (.ref s.heap.objs.size) (.ref a)<|.ref s.heap.objs.size) _ _ {s with heap:=s.heap.push (seqObj "list" #[] 0)}
 unfold Builtin.List.listExtendWith;refine XU (EL (T:="set") (SetIs.ty (s:={s with heap:=s.heap.push (seqObj "list" #[] 0)}) Cp) ?_);have e1:Builtin.List.listSameRef (.ref s.heap.objs.size) (.ref a)=false:=by show(s.heap.objs.size == a)=false;exact vh (Rn Kx)
 rw[if_neg (by rw[e1];decide)];refine XU (mS (A:=A.in1) (by simp[hh]) Cp hf hr hl hz λI h' d ord fp St OI W Gf xb hI Qe kp=>?_);have hT':Shared.TypeIs {s with heap:=h',drawn:=d} (.ref a) "set":=SetIs.ty (s:={s with heap:=h',drawn:=d}) (Cp.keep λo e=>kp a o e)
 refine XU (RN<|mQ hT' ?_);rw[if_pos B];have cM:=kp _ _ II
 refine XU (Gz<|XU ?_);unfold Builtin.List.listTouch;refine XU (Ss (xs:=#[]) (n:=0) cM Z ?_ (Yj _)<|by show 1<=sizeLine+1;lia);have cL:=VF (Obj.mapSeq (·.push Value.none)) cM rfl
 refine Ss (xs:=#[].push Value.none) (n:=1) cL Z ?_ (by show 1<=sizeLine;decide) (by show 0<=sizeLine+1;lia);have hL4:=VF (Obj.mapSeq Array.pop) cL rfl
 have old:∀c o,c≠s.heap.objs.size->h'.get? c=some o->((h'.update s.heap.objs.size (Obj.mapSeq (·.push Value.none))).update s.heap.objs.size (Obj.mapSeq Array.pop)).get? c=some o:=λc o hc e=>by rwa[YU _ _ (XI hc),YU _ _ (XI hc)]
 generalize (h'.update s.heap.objs.size (Obj.mapSeq (·.push Value.none))).update s.heap.objs.size (Obj.mapSeq Array.pop)=h4 at *;have Sh:s.heap.objs.size∉fp:=λq=>by
  rcases(xb _ q).2 with e|e
  .exact Rn Kx e
  .rw [show({s with heap:=s.heap.push (seqObj "list" #[] 0)}:Shared).heap.objs.size=s.heap.objs.size+1 from UH ..] at e;exact Nat.not_succ_le_self _ e
 have mP:ord.length=es.size:=by rw[OI.length_eq,Yb,YE]
 refine Ym ⟨Nd gC _,codeAny_extend_loopS W.toS (by rwa[mP]) s.heap.objs.size Sh _ ord.length 0 _ #[] _ Z (Yj _) (W.frame 0 _ _ Gf λb hb o e=>old b o (λq=>Sh<|q▸hb) e) hL4 (ItemsOf.nil _) λs2 acc c m cK VS=>?_⟩;have eo:acc.toList=ord:=by
  refine GO λi=>?_;rw[YW];by_cases hi:i<ord.length
  .have q:acc[i]?=some (acc[i]'(by rwa[VS.1])):=YH _;rw[q,VS.2 i _ q]
  .rw[Vs uE,Fg (by rw[VS.1];omega)]
 show wpAny _ A (load s.heap.objs.size >>= _) Q E s2;refine XU (EG cK ?_);refine Ym ?_;rw[eo,Moved.eq_with m];refine k ord s2.heap s2.toks d OI (Nb<|Yq cK) λc o e=>?_;have lt:=Yq e
 refine m.heap c o (λq=>?_) (old c o (YB lt)<|kp c o<|Xc _ e);rcases Yg.mp q with e'|e'
 .exact YB lt e'
 .rw[XG.mp e']at lt
  have:=Yw lt (Yv (TH _)<|UH .. ▸ Qe)
  exact Sw _ this
end
theorem cJ:∀{l:Ac},m.Nodup->l.length=m.length->(∀x∈m,x∈l)->l.Perm m:=by
 induction m with
 |nil=>intro l _ h _;rw[YY.mp h]
 |cons x m ih=>
  intro l hn hl hs;have hx:=hs x Xd
  have Rb:=RQ.mp hn;refine(List.perm_cons_erase hx).trans ((ih Rb.2 (by rw[JI hx,hl];rfl) λy hy=>?_).cons x);have ne:y≠x:=λe=>Rb.1 (by rwa[<-e])
  exact(vt ne).mpr (hs y<|Yf _ hy)
theorem ZY8(p:us.Perm vs):∀{ns:Ac},IntsAre vs ns->∃ms,IntsAre us ms/\ms.Perm ns:=by
 induction p with
 |nil=>intro ns h;exact⟨ns,h,.rfl⟩
 |cons x _ ih=>
  intro ns h;cases h with
  |cons n t h=>
   obtain⟨ms,h1,h2⟩:=ih h;exact⟨n::ms,.cons n t h1,h2.cons n⟩
 |swap x y l=>
  intro ns h;cases h with
  |cons n t h=>
   cases h with
   |cons m u h=>exact⟨m::n::_,.cons m u<|.cons n t h,.swap n m _⟩
 |trans _ _ OU Sz=>
  intro ns h;obtain⟨ms,h1,h2⟩:=Sz h;obtain⟨ls,h3,h4⟩:=OU h1;exact⟨ls,h3,h4.trans h2⟩
theorem mN(h:IntsAre vs ns):vs.length=ns.length:=by
 induction h with
 |nil=>rfl
 |cons n t _ ih=>rw[Yt,Yt,ih]
theorem Mr(val:Nat->Int):∀i,(firstMet val i).Nodup
 |0=>.nil
 |i+1=>by
  rw[EI];unfold step_dedup;split
  .exact Mr val i
  .rename_i h;refine YM.mpr ⟨Mr val i,S,λa ha b hb e=>?_⟩;rw[XG.mp hb]at e;exact h (LF.mpr ⟨a,ha,by rw[e];simp⟩)
section
variable{prog:Program}{w:World}{A:Around}{E:Ae}{s:Shared}
theorem cI:∀{l:List (Int×Value)},ElemsOf (intKind prog w) l->∃ms,IntsAre (l.map (·.2)) ms/\∀z,z∈ms↔∃y∈l,(intKind prog w).is z y.2=true
 |[],_=>⟨[],.nil,λz=>⟨λh=>(by cases h),λzz=>by obtain⟨y,h,_⟩:=zz;exact(by cases h)⟩⟩
 |y::l,h=>by
  obtain⟨ms,h1,h2⟩:=cI h.tail;obtain⟨⟨z,hz,_⟩,_⟩:=h.head;obtain⟨hy,v⟩:=y;obtain⟨u,rfl⟩:=Value.isInt_shape (show Value.isInt z v=true from hz);refine⟨z::ms,.cons z u h1,λx=>?_⟩;rw[Yg,h2];constructor
  .rintro(e|⟨y,hy,q⟩)
   .exact⟨_,Xd,e▸hz⟩
   .exact⟨y,Yf _ hy,q⟩
  .rintro⟨y,hy,q⟩;rcases Yg.mp hy with e|e
   .rw[e]at q;exact .inl ((intKind prog w).inj _ _ _ q hz)
   .exact .inr ⟨y,e,q⟩
theorem Yz6{led:Bool}{uz:Int->Bool}{Q:Ae}(hh:A.handled=none)(hS:SetR prog w s.heap a (!w.params.followText "set-order") uz n)(Qi:n<64)
  (k:∀(ms:Ac)(out:Ag) r h' tk d c,IntsAre out ms->ms.Pairwise (·<=·)->ms.length=n->(∀z,z∈ms↔uz z=true)->s.heap.objs.size<=r->h'.get? r=some (seqObj "list" out.toArray c)->(∀c o,s.heap.get? c=some o->h'.get? c=some o)->Q (.ref r) {s with heap:=h',toks:=tk,drawn:=d}):
  wpAny (model prog w) A (call (.builtin "sorted") [.ref a]) Q E s:=by
 obtain⟨o,es,ep,t,ho,hx,hd,he,hm,hb,hf,hn,hr,hl⟩:=hS;obtain⟨ns,hI,hmem⟩:=cI he;have CZ:sizeLine=16777216:=TF
 refine Calls.call_function_entry kind_sorted plain_sorted entry_sorted (args_sorted1 _) ?_;unfold Builtin.«sorted»;refine XU (m:=checkCount "sorted" 1 1 _) (Ym ?_);refine XU (Zc6 (A:=A.in1) (by simp[hh]) ⟨o,ho,hx,hd⟩ hf hr hl J λout h1 tk d hp Qe kp=>?_);obtain⟨ls,cH,VO⟩:=ZY8 hp hI;have lo:=mN cH
 have ll:ls.length=n:=by rw[<-lo,hp.length_eq,Yb,YE,hn]
 refine XU (JP ?_);have hL:(h1.push<|seqObj "list" out.toArray 0).get? h1.objs.size=some (seqObj "list" out.toArray 0):=Yk _ rfl
 refine XU (RN<|PJ slot_list_sort ⟨_,hL,Z⟩ entry_list_sort (list_sort_tree hL cH J λres ms b1 b2 b3=>⟨_,Z,?_⟩)<|args_list_sort _);obtain⟨c,hc⟩:=sortedHeap_at (out:=res) hL;refine Ym ⟨_,Z,k ms res.toList h1.objs.size _ tk d c b1 b3 (by rw[b2.length_eq,ll]) (λz=>by rw[b2.mem_iff,VO.mem_iff,hmem,hm]) Qe (by rwa[Array.toArray_toList]) λb ob e=>?_⟩;have lt:=Yq (kp b ob e)
 rw[sortedHeap_old (YB lt) (by rw[size_push'];exact GP lt)];exact Xc _ (kp b ob e)
end
section
variable{X:Cx}{p p2 pos UT:Pos}{e:Expr}{t:TA}
theorem Inv.drew(I:Inv X pins σ H s)(d:Drawn):Inv X pins σ H {s with drawn:=d}:=
 I.step (g':=s.gens) (d':=d) (t':=s.toks) (h':=s.heap) (ch:=[]) (λb hb=>(by cases hb)) (λb o _ _ _ q _=>q) (λb o _ _ _ q _=>⟨o.slots,q⟩) (λb o _ _ n=>n) (λb o _ q=>⟨o,q⟩) (λb xs q=>q) (λb o u q=>q) (λb ps q=>⟨#[],by rw[q];simp⟩) (λm hm=>hm) I.hok I.bare
def Zw6(K:Ad)(t:TA):TE:=λσ H Q=>t σ H λvs H1=>∃(a:Addr)(ns:Ac),vs=[.ref a]/\SqL K H1 a (ns.map V.int)/\ns.length<64/\∀ms:Ac,ms.Pairwise (·<·)->(∀z,z∈ms↔z∈ns)->∀l,H1 l=none->Q (.ref l) (upd H1 l<|.lst<|ms.map V.int)
theorem ZD4(K:Ad)(hc:X.calm=true)(g1:Gl X "sorted")(m1:X.mg "sorted"=none)(g2:Gl X "set")(m2:X.mg "set"=none)(ha:PA X [e] t)(hk:X.K=K:=by rfl)
  (he:starEach [e] X.env=[(false,eval e X.env)]:=by rfl)
  (Ph:starEach [.Call (.Name "set" p2) [e] [] UT] X.env=[(false,eval (.Call (.Name "set" p2) [e] [] UT) X.env)]:=by rfl):
  PE X (.Call (.Name "sorted" p) [.Call (.Name "set" p2) [e] [] UT] [] pos) (Zw6 K t):=by
 subst hk;intro pins s σ H Q I h;refine NP (Ra I g1 m1 Boot.«sorted» ?_);refine gF ?_ (by rw[Ph];rfl) rfl;rw[Ph];show wpAny _ _ (spliced<|(false,eval (.Call (.Name "set" p2) [e] [] UT) X.env)::backTo pos []) _ _ s
 refine uY ?_;refine NP (Ra I g2 m2 Boot.«set» ?_);refine Ug (thn (ha UT pins s σ H _ I h) λus s1 zz=>?_) (by rw[he];rfl) rfl;obtain⟨vs,H1,I1,r1,q1⟩:=zz;obtain⟨a,ns,rfl,hq,hn,q⟩:=q1;obtain⟨u,rfl,ru⟩:=WL r1;obtain rfl:u=Value.ref a:=ru;obtain⟨XT,rv,pl,hz⟩:=I1.list hq;have hi:=ZA rv
 have el:XT.toArray.size=ns.length:=by rw[Yc,<-rv.length,Yb]
 have sb:scanBound=4096:=rfl;refine nj (I.ok.hd hc) pl.isList (ns:=ns) (by simpa using hi) J λh2 tk hS kp=>?_;refine uR ?_;have fl:=firstMet_length_le (λi=>ns.getD i 0) XT.toArray.size
 refine Yz6 (led:=true) (s:={s1 with heap:=h2,toks:=tk}) (I.ok.hd hc) hS J λms out r h3 tk3 d c hI hs hl hmem Qe hr kp3=>?_;have em:∀z,z∈ms↔z∈ns:=λz=>by
  rw[hmem,firstMet_any,el];have e1:(List.range ns.length).map (λi=>ns.getD i 0)=ns:=by
   refine GO λi=>?_;rw[Yl];by_cases c:i<ns.length
   .rw[Rh c,Xw c,vf,Ya,Xw c];rfl
   .rw[Vs (by rw[PL];lia),Vs uD];rfl
  rw[e1];simp
 have TR:ms.Nodup:=(cJ (Mr _ _) hl λx hx=>(hmem x).mpr (LF.mpr ⟨x,hx,S⟩)).nodup_iff.mpr (Mr _ _);have Xn:s1.heap.objs.size<=h2.objs.size:=by obtain⟨_,_,_,_,e,_⟩:=hS;exact Nb (Yq e)
 have Cn:s1.heap.objs.size<=r:=Yv Xn Qe;have Nw:ms.length<=ns.length:=by rwa[hl,<-el]
 have I2:=(I1.laid (o:=.lst<|ms.map V.int) (h':=h3) (t':=tk3) (λb o e=>kp3 b o<|kp b o e) Cn ⟨by rw[Yb];have:sizeLine=16777216:=TF;lia,out,c,OZ hI,hr⟩).drew d;exact⟨.ref r,_,I2,Z,q ms (My.UQ hs TR) em r<|I1.hok.fresh Cn⟩
end
end L2
namespace My
open PySem L2
theorem ZU7{f g:Nat->Nat}{N k:Nat}(hf:∀i j,i<N->j<N->(f i=f j↔Conn A i j))(hk:∀i,i<N->f i<k)(hg:∀a,a<k->g a<N/\f (g a)=a)(hA:InN N A)(hB:InN N uw):
  (∀i j,i<N->j<N->Conn (A++uw) i j)↔∀a b,a<k->b<k->Conn (uw.map λe=>(f e.1,f e.2)) a b:=by
 have gi:∀i,i<N->Conn A (g<|f i) i:=λi hi=>by obtain⟨h1,h2⟩:=hg (f i) (hk i hi);exact(hf _ _ h1 hi).mp h2
 constructor
 .intro c a b ha hb;obtain⟨a1,a2⟩:=hg a ha;obtain⟨b1,b2⟩:=hg b hb;have q:=(c (g a) (g b) a1 b1).image (f:=f) (fs:=uw.map λe=>(f e.1,f e.2)) λe he=>by
   rcases XE.mp he with q|q
   .obtain⟨e1,e2⟩:=hA e q;rw[(hf _ _ e1 e2).mpr (.edge q)];exact .refl _
   .exact .edge (Yz.mpr ⟨e,q,Z⟩)
  rwa[a2,b2]at q
 .intro c i j hi hj;have up:∀{i j:Nat},Conn A i j->Conn (A++uw) i j:=λq=>q.mono λe he=>Yd _ he
  have q:=(c (f i) (f j) (hk i hi)<|hk j hj).image (f:=g) (fs:=A++uw) λe he=>by obtain⟨d,hd,rfl⟩:=Yz.mp he;obtain⟨d1,d2⟩:=hB d hd;exact(up<|gi _ d1).trans ((Conn.edge<|Yi _ hd).trans (up<|gi _ d2).symm)
  exact(up<|gi i hi).symm.trans (q.trans<|up<|gi j hj)
def PC(n:Int)(ps:Aa)(I O:Ac)(c:Nat):Prop:=∃L:Ab,L.Nodup/\(∀l,l∈L↔Zf n ps l/\(∀z∈I,z∈l)/\∀z∈O,z∉l)/\L.length=c
theorem PC.uniq(h1:PC n ps I O c)(h2:PC n ps I O d):c=d:=by
 obtain⟨L,a1,a2,a3⟩:=h1;obtain⟨M,b1,b2,b3⟩:=h2
 have:L.Perm M:=(LM a1 b1).mpr λl=>by rw[a2,b2]
 rw[<-a3,<-b3,this.length_eq]
def XB(m:Nat)(gone:Ac):Ac:=(Wi m).filter λz=>decide (z∉gone)
theorem WR{z:Int}:z∈XB m gone↔(0<=z/\z<(m:Int))/\z∉gone:=by unfold XB;rw[Yh,YV,Xq]
theorem cG(m:Nat)(gone:Ac):(XB m gone).Pairwise (·<·):=(XX.mp<|xB m).2.filter _
def Tc(f:Nat->Nat)(ps:Aa)(R:Ac):Aa:=R.map λz=>((f (Zx ps z).1:Int),(f (Zx ps z).2:Int))
def QE(R:Ac)(uz:Ac):Ac:=uz.map λt=>R.getD t.toNat 0
theorem Cm(hR:R.Pairwise (·<·))(hS:IsSet R.length uz):(QE R uz).Pairwise (·<·):=by
 obtain⟨a1,a2⟩:=XX.mp hS;refine LI.mpr (a2.imp_of_mem λ{a b} ha hb Vw=>?_);have h1:=a1 a ha
 have h2:=a1 b hb;rw[Ya,Ya,Xw J,Xw J];exact Ka.mp hR a.toNat b.toNat uD uD uE
theorem Ck(hS:IsSet R.length uz){z:Int}(h:z∈QE R uz):z∈R:=by
 obtain⟨t,ht,rfl⟩:=Yz.mp h;have h1:=hS.all t ht
 rw[Ya,Xw J];exact Ni _
theorem mM{f:Nat->Nat}(hS:IsSet R.length uz):XR (Tc f ps R) uz=(XR ps (QE R uz)).map λe=>(f e.1,f e.2):=by
 unfold XR QE;rw[LB,LB];refine VW λt ht=>?_;have h1:=hS.all t ht
 have e:(Tc f ps R).getD t.toNat (0,0)=((f (Zx ps<|R.getD t.toNat 0).1:Int),(f (Zx ps<|R.getD t.toNat 0).2:Int)):=by unfold Tc;rw[Ya,Yl,Ya,Xw uD];rfl
 rw[e];rfl
def RE(m:Nat)(I R uz:Ac):Ac:=(Wi m).filter λz=>decide (z∈I\/z∈QE R uz)
theorem mL(m:Nat)(I R uz:Ac):(RE m I R uz).Pairwise (·<·):=(XX.mp<|xB m).2.filter _
theorem WS{z:Int}:z∈RE m I R uz↔(0<=z/\z<(m:Int))/\(z∈I\/z∈QE R uz):=by unfold RE;rw[Yh,YV,Xq]
section
variable{n:Int}{ps:Aa}{I O uz:Ac}{f g:Nat->Nat}{k:Nat}
theorem Ir(hI:IsSet ps.length I)(hS:IsSet (XB ps.length (I++O)).length uz):(RE ps.length I (XB ps.length (I++O)) uz).Perm (I++QE (XB ps.length (I++O)) uz):=by
 have ua:=Cm (cG ps.length<|I++O) hS;refine(LM (MF<|mL _ _ _ _)<|YM.mpr ⟨hI.nodup,MF ua,λa ha b hb e=>?_⟩).mpr λz=>?_
 .have:=(WR.mp<|Ck hS hb).2
  exact this (Yd _<|e▸ha)
 .rw[WS,XE];refine⟨λh=>h.2,λh=>⟨?_,h⟩⟩;rcases h with q|q
  .exact hI.all z q
  .exact(WR.mp<|Ck hS q).1
theorem cF(g0:Zz n ps)(hI:IsSet ps.length I)(hf:∀i j,i<n.toNat->j<n.toNat->(f i=f j↔Conn (XR ps I) i j))(hk:∀i,i<n.toNat->f i<k)(hg:∀a,a<k->g a<n.toNat/\f (g a)=a)(hS:IsSet (XB ps.length (I++O)).length uz):
  ((∀i j,i<n.toNat->j<n.toNat->Conn (XR ps<|RE ps.length I (XB ps.length<|I++O) uz) i j)↔∀a b,a<k->b<k->Conn (XR (Tc f ps<|XB ps.length<|I++O) uz) a b):=by
 have hp:=Ir (O:=O) hI hS;have hA:=ZO (ns:=I) g0 hI.all
 have hB:=ZO (ns:=QE (XB ps.length<|I++O) uz) g0 λz hz=>(WR.mp<|Ck hS hz).1;have e:XR ps (I++QE (XB ps.length<|I++O) uz)=XR ps I++XR ps (QE (XB ps.length<|I++O) uz):=by unfold XR;exact YG
 rw[mM hS,<-ZU7 hf hk hg hA hB,<-e];exact⟨λc i j hi hj=>(TX λz=>hp.mem_iff).mp (c i j hi hj),λc i j hi hj=>(TX λz=>hp.mem_iff).mpr (c i j hi hj)⟩
theorem Kw(hI:IsSet ps.length I)(hT:IsSet ps.length T)(h1:∀z∈I,z∈T)(h2:∀z∈O,z∉T):∃uz,IsSet (XB ps.length (I++O)).length uz/\T=RE ps.length I (XB ps.length (I++O)) uz:=by
 refine⟨(Wi (XB ps.length<|I++O).length).filter λt=>decide<|(XB ps.length<|I++O).getD t.toNat 0∈T,XX.mpr ⟨λt ht=>Xq.mp (Yh.mp ht).1,(XX.mp<|xB _).2.filter _⟩,CK (XX.mp hT).2 (mL _ _ _ _) λz=>?_⟩;rw[WS];constructor
 .intro hz;refine⟨hT.all z hz,?_⟩;by_cases c:z∈I
  .exact .inl c
  .right;have hR:z∈XB ps.length (I++O):=WR.mpr ⟨hT.all z hz,λq=>by
    rcases XE.mp q with q|q
    .exact c q
    .exact h2 z q hz⟩
   obtain⟨t,ht⟩:=VX hR;have e:(XB ps.length<|I++O).getD ((t:Int)).toNat 0=z:=by rw[YA];exact ZW ht
   refine Yz.mpr ⟨(t:Int),Yh.mpr ⟨Xq.mpr ⟨J,by have:=(Xr.mp ht).1;omega⟩,Yp<|by rwa[e]⟩,e⟩
 .rintro⟨_,q|q⟩
  .exact h1 z q
  .obtain⟨t,ht,rfl⟩:=Yz.mp q;exact Yr (Yh.mp ht).2
theorem Zh9{S':Ac}(hS:IsSet (XB ps.length (I++O)).length uz)(SA:IsSet (XB ps.length (I++O)).length S')(e:RE ps.length I (XB ps.length (I++O)) uz=RE ps.length I (XB ps.length (I++O)) S'):uz=S':=by
 have key:∀{A uw:Ac},IsSet (XB ps.length<|I++O).length A->IsSet (XB ps.length<|I++O).length uw->RE ps.length I (XB ps.length<|I++O) A=RE ps.length I (XB ps.length<|I++O) uw->∀t,t∈A->t∈uw:=λ{A uw} hA hB e t ht=>by
  have h1:=hA.all t ht;have hm:(XB ps.length<|I++O).getD t.toNat 0∈QE (XB ps.length<|I++O) A:=Yz.mpr ⟨t,ht,Z⟩
  have hR:=WR.mp (Ck hA hm);have h2:(XB ps.length<|I++O).getD t.toNat 0∈RE ps.length I (XB ps.length<|I++O) uw:=e▸WS.mpr ⟨hR.1,.inr hm⟩
  rcases(WS.mp h2).2 with q|q
  .exact absurd (Yd _ q) hR.2
  .obtain⟨u,hu,e2⟩:=Yz.mp q;have h3:=hB.all u hu
   rw[Ya,Ya,Xw J,Xw J]at e2
   have:=IU (MF<|cG ps.length<|I++O) (i:=u.toNat) (j:=t.toNat) (Xw uD) (by rw[Xw uD];exact Xy some e2.symm)
   have e3:u=t:=J;exact e3▸hu
 exact CK (XX.mp hS).2 (XX.mp SA).2 λt=>⟨key hS SA e t,key SA hS e.symm t⟩
theorem xa(f:Nat->Nat)(ps:Aa)(R:Ac):(Tc f ps R).length=R.length:=Yb ..
theorem mK(g0:Zz n ps)(hI:IsSet ps.length I)(VZ:∀z∈I,z∉O)(hf:∀i j,i<n.toNat->j<n.toNat->(f i=f j↔Conn (XR ps I) i j))(hk:∀i,i<n.toNat->f i<k)(hg:∀a,a<k->g a<n.toNat/\f (g a)=a)(hn:(k:Int)+(I.length:Int)=n)(h:TC k (Tc f ps (XB ps.length (I++O))) c):PC n ps I O c:=by
 obtain⟨L,h1,h2,h3⟩:=h;have hs:∀l∈L,IsSet (XB ps.length<|I++O).length l:=λl hl=>xa f ps _▸((h2 l).mp hl).1
 have len:∀{uz:Ac},IsSet (XB ps.length<|I++O).length uz->(RE ps.length I (XB ps.length<|I++O) uz).length=I.length+uz.length:=λ{uz} hS=>by rw[(Ir hI hS).length_eq,Xu];unfold QE;rw[Yb]
 have iff:∀{uz:Ac},IsSet (XB ps.length<|I++O).length uz->(Zf n ps (RE ps.length I (XB ps.length<|I++O) uz)↔Zf k (Tc f ps<|XB ps.length<|I++O) uz):=λ{uz} hS=>by
  have l:=len hS;have q:=cF (O:=O) g0 hI hf hk hg hS
  constructor
  .rintro⟨a1,a2,a3⟩;exact⟨by rw[xa];exact hS,J,λa b ha hb=>q.mp a3 a b J J⟩
  .rintro⟨a1,a2,a3⟩;exact⟨XX.mpr ⟨λz hz=>(WS.mp hz).1,mL _ _ _ _⟩,J,q.mpr λa b ha hb=>a3 a b J J⟩
 refine⟨L.map<|RE ps.length I<|XB ps.length<|I++O,LI.mpr<|h1.imp_of_mem λ{a b} ha hb Vw e=>Vw<|Zh9 (hs a ha) (hs b hb) e,λT=>?_,by rw[Yb,h3]⟩;rw[Yz];constructor
 .rintro⟨uz,hS,rfl⟩;refine⟨(iff<|hs uz hS).mpr ((h2 uz).mp hS),λz hz=>WS.mpr ⟨hI.all z hz,.inl hz⟩,λz hz q=>?_⟩;rcases(WS.mp q).2 with q|q
  .exact VZ z q hz
  .exact(WR.mp<|Ck (hs uz hS) q).2 (Yi _ hz)
 .rintro⟨hT,q1,q2⟩;obtain⟨uz,hS,rfl⟩:=Kw hI hT.1 q1 q2;exact⟨uz,(h2 uz).mpr ((iff hS).mp hT),Z⟩
theorem cE(g0:Zz n ps)(gone:Ac)(hk:∀i,i<n.toNat->f i<k)(k1:1<=k)(kn:k<=n.toNat):Zz k (Tc f ps (XB ps.length gone)):=by
 obtain⟨g1,g2,g3,g4⟩:=g0;refine⟨J,J,?_,λp hp=>?_⟩
 .rw[xa]
  have:(XB ps.length gone).length<=(Wi ps.length).length:=YF ..
  have:=(xB ps.length).len
  lia
 .obtain⟨z,hz,rfl⟩:=Yz.mp hp;have xr:=(WR.mp hz).1
  obtain⟨q,hq⟩:∃q,ps[z.toNat]?=some q:=⟨_,Xw J⟩;obtain⟨e1,e2,e3,e4⟩:=g4 q (Xi hq);have ee:Zx ps z=(q.1.toNat,q.2.toNat):=by unfold Zx;rw[ZW hq]
  rw[ee];have a:=hk q.1.toNat uE
  have b:=hk q.2.toNat uE;exact⟨by show(0:Int)<=(f q.1.toNat:Int);lia,by show(f q.1.toNat:Int)<(k:Int);grind,by show(0:Int)<=(f q.2.toNat:Int);lia,by show(f q.2.toNat:Int)<(k:Int);grind⟩
theorem mJ(g0:Zz n ps)(hI:IsSet ps.length I)(hf:∀i j,i<n.toNat->j<n.toNat->(f i=f j↔Conn (XR ps I) i j))(hk:∀i,i<n.toNat->f i<k)(hg:∀a,a<k->g a<n.toNat/\f (g a)=a)(k1:1<=k)(kn:k<=n.toNat)(hn:n<(k:Int)+(I.length:Int)):PC n ps I O 0:=by
 refine⟨[],.nil,λT=>⟨λh=>(by cases h),λzz=>?_⟩,Z⟩;obtain⟨hT,q1,q2⟩:=zz;obtain⟨uz,hS,rfl⟩:=Kw hI hT.1 q1 q2;have q:=(cF (O:=O) g0 hI hf hk hg hS).mp hT.2.2
 have gg:=cE (f:=f) g0 (I++O) hk k1 kn;have l:=nN gg (by rwa[xa]) λa b ha hb=>q a b uE uE
 have l2:=hT.2.1;rw[(Ir hI hS).length_eq,Xu]at l2;unfold QE at l2;rw[Yb]at l2;omega
end
def UP:Ac->Int->Nat
 |[],_=>0
 |x::l,z=>if x=z then 0 else UP l z+1
theorem Iq:∀{l:Ac}{z:Int},z∈l->l[UP l z]?=some z
 |x::l,z,h=>by
  unfold UP;by_cases c:x=z
  .rw[if_pos c,c];rfl
  .rw[if_neg c];exact Iq ((Yg.mp h).resolve_left λe=>c e.symm)
theorem mH(h:z∈l):UP l z<l.length:=(Xr.mp<|Iq h).1
theorem mG(hz:z∈l)(hy:y∈l):UP l z=UP l y↔z=y:=by
 refine⟨λe=>?_,λe=>by rw[e]⟩;have h1:=Iq hz
 rw[e,Iq hy]at h1;exact(Ye h1).symm
theorem mF(hn:l.Nodup){i:Nat}{z:Int}(h:l[i]?=some z):UP l z=i:=IU hn (Iq<|Xi h) h
theorem Kv(h:i<M.length):mk M i∈M:=by unfold mk;rw[Ya,Xw h];exact Ni h
section
variable{N:Nat}{es:List (Nat×Nat)}{F:Ac}
theorem mE(h:InN N es)(hF:F.Pairwise (·<·))(hm:∀z,z∈F↔z∈Xs N es):
  ∃g:Nat->Nat,(∀i j,i<N->j<N->(UP F (mk (Xs N es) i)=UP F (mk (Xs N es) j)↔Conn es i j))/\(∀i,i<N->UP F (mk (Xs N es) i)<F.length)/\∀a,a<F.length->g a<N/\UP F (mk (Xs N es)<|g a)=a:=by
 have hl:=ZD N es;have mD:∀i,i<N->mk (Xs N es) i∈F:=λi hi=>(hm _).mpr (Kv J)
 have ex:∀a,∃i,a<F.length->i<N/\UP F (mk (Xs N es) i)=a:=λa=>by
  by_cases c:a<F.length
  .have q:=(hm _).mp (Ni c);obtain⟨i,hi⟩:=VX q;have Wh:=(Xr.mp hi).1
   refine⟨i,λ_=>⟨J,?_⟩⟩;have e:mk (Xs N es) i=F[a]:=by unfold mk;exact ZW hi
   rw[e];exact mF (MF hF) (Xw c)
  .exact⟨0,λh=>absurd h c⟩
 refine⟨λa=>Classical.choose<|ex a,λi j hi hj=>?_,λi hi=>mH<|mD i hi,λa ha=>Classical.choose_spec (ex a) ha⟩;rw[mG (mD i hi) (mD j hj)];exact QN h hi hj
theorem mC:∀i,∃p,p<=i/\Wn M p=true/\mk M p=mk M i:=by
 intro i
 induction i using Nat.strongRecOn with
 |_ i ih=>
  by_cases c:Wn M i=true
  .exact⟨i,XJ _,c,Z⟩
  .obtain⟨j,hj,e⟩:∃j,j<i/\mk M j=mk M i:=Yx λno=>c (Xz.mpr λj hj e=>no ⟨j,hj,e⟩);obtain⟨p,h1,h2,h3⟩:=ih j hj;exact⟨p,J,h2,h3.trans e⟩
theorem mB(hF:F.Pairwise (·<·))(hm:∀z,z∈F↔z∈M):F.length=cnt M:=by
 have e:F.Perm ((Vp M M.length).map (mk M)):=by
  refine(LM (MF hF) ?_).mpr λz=>?_
  .refine LI.mpr ?_;unfold Vp;refine(Fi.filter<|Wn M).imp_of_mem λ{a b} ha hb Vw=>?_;exact Xz.mp (Yh.mp hb).2 a Vw
  .rw[hm,Yz];constructor
   .intro hz;obtain⟨i,hi⟩:=VX hz;have Wh:=(Xr.mp hi).1
    obtain⟨p,h1,h2,h3⟩:=mC (M:=M) i;refine⟨p,Yh.mpr ⟨YK.mpr J,h2⟩,h3.trans ?_⟩;unfold mk;exact ZW hi
   .rintro⟨p,hp,rfl⟩;exact Kv (YK.mp (Yh.mp hp).1)
 rw[e.length_eq,Yb];rfl
theorem ZL4(h:InN N es)(hN:1<=N)(hF:F.Pairwise (·<·))(hm:∀z,z∈F↔z∈Xs N es):1<=F.length/\F.length<=N/\N<=F.length+es.length:=by
 have e:=mB hF hm;have hl:=ZD N es
 have e2:=pN (xT (n:=N) (es:=es) h);have e3:=xF es h
 have e4:=qp (M:=Xs N es) J;have e5:cnt (Xs N es)<=N:=by unfold cnt Vp;refine Yv (YF ..) ?_;rw[PL];lia
 grind
end
theorem PC.congr{n:Int}{ps:Aa}{I O I' O':Ac}{c:Nat}(hI:∀z,z∈I↔z∈I')(hO:∀z,z∈O↔z∈O')(h:PC n ps I O c):PC n ps I' O' c:=by obtain⟨L,h1,h2,h3⟩:=h;refine⟨L,h1,λl=>?_,h3⟩;rw[h2];exact⟨λzz=>by obtain⟨a,b,d⟩:=zz;exact⟨a,λz hz=>b z<|(hI z).mpr hz,λz hz=>d z<|(hO z).mpr hz⟩,λzz=>by obtain⟨a,b,d⟩:=zz;exact⟨a,λz hz=>b z<|(hI z).mp hz,λz hz=>d z<|(hO z).mp hz⟩⟩
theorem TC.pc{n:Int}{ps:Aa}{c:Nat}(h:TC n ps c):PC n ps [] [] c:=by obtain⟨L,h1,h2,h3⟩:=h;exact⟨L,h1,λl=>by rw[h2];exact⟨λh=>⟨h,λz hz=>(by cases hz),λz hz=>(by cases hz)⟩,λh=>h.1⟩,h3⟩
theorem Zw8{n:Int}{ps:Aa}{z:Int}{I O:Ac}(h1:z∈I)(h2:z∈O):PC n ps I O 0:=
 ⟨[],.nil,λT=>⟨λh=>(by cases h),λzz=>by obtain⟨_,q,r⟩:=zz;exact absurd (q z h1)<|r z h2⟩,Z⟩
theorem cD{t:Int}(h1:PC n ps (t::I) O a)(h2:PC n ps I (t::O) b):PC n ps I O (a+b):=by
 obtain⟨L,l1,l2,l3⟩:=h1;obtain⟨M,m1,m2,m3⟩:=h2;refine⟨L++M,YM.mpr ⟨l1,m1,λx hx y hy e=>?_⟩,λT=>?_,by rw[Xu,l3,m3]⟩
 .rw[e]at hx;exact((m2 y).mp hy).2.2 t Xd (((l2 y).mp hx).2.1 t Xd)
 .rw[XE,l2,m2];constructor
  .rintro(⟨a1,a2,a3⟩|⟨a1,a2,a3⟩)
   .exact⟨a1,λz hz=>a2 z<|Yf _ hz,a3⟩
   .exact⟨a1,a2,λz hz=>a3 z<|Yf _ hz⟩
  .rintro⟨a1,a2,a3⟩;by_cases c:t∈T
   .exact .inl ⟨a1,λz hz=>by
     rcases Yg.mp hz with e|e
     .rw[e];exact c
     .exact a2 z e,a3⟩
   .exact .inr ⟨a1,a2,λz hz=>by
     rcases Yg.mp hz with e|e
     .rw[e];exact c
     .exact a3 z e⟩
def FD(A uw:Ac)(t:Int):Prop:=t∈A/\t∉uw/\∀s,s<t->(s∈A↔s∈uw)
theorem FD.uniq(h:FD A uw t)(k:FD A uw u):t=u:=by
 rcases Int.lt_trichotomy t u with c|c|c
 .exact absurd ((k.2.2 t c).mp h.1) h.2.1
 .exact c
 .exact absurd ((h.2.2 u c).mp k.1) k.2.1
theorem OH:∀{A uw:Ac},A.Pairwise (·<·)->uw.Pairwise (·<·)->A.length=uw.length->(HT.lexLt A uw=true↔∃t,FD A uw t)
 |[],[],_,_,_=>⟨λh=>(by cases h),λzz=>by obtain⟨t,h,_⟩:=zz;exact(by cases h)⟩
 |x::A,y::uw,hA,hB,hl=>by
  obtain⟨a1,a2⟩:=QP.mp hA;obtain⟨b1,b2⟩:=QP.mp hB;have Rc:A.length=uw.length:=Nc hl
  show(if x=y then HT.lexLt A uw else decide (x<y))=true↔_;by_cases c:x=y
  .subst c;rw[if_pos Z,OH a2 b2 Rc];constructor
   .rintro⟨t,h1,h2,h3⟩;have tx:=a1 t h1
    refine⟨t,Yf _ h1,λq=>?_,λs hs=>?_⟩
    .rcases Yg.mp q with e|e
     .lia
     .exact h2 e
    .rw[Yg,Yg,h3 s hs]
   .rintro⟨t,h1,h2,h3⟩;have tx:t≠x:=λe=>h2 (e▸Xd)
    have FR:=(Yg.mp h1).resolve_left tx;refine⟨t,FR,λq=>h2<|Yf _ q,λs hs=>?_⟩
    have:=h3 s hs
    rw[Yg,Yg]at this;by_cases e:s=x
    .rw[e];exact⟨λq=>absurd (a1 x q)<|Int.lt_irrefl x,λq=>absurd (b1 x q)<|Int.lt_irrefl x⟩
    .exact⟨λq=>(this.mp<|.inr q).resolve_left e,λq=>(this.mpr<|.inr q).resolve_left e⟩
  .rw[if_neg c,YV];constructor
   .intro h;refine⟨x,Xd,λq=>?_,λs hs=>⟨λq=>?_,λq=>?_⟩⟩
    .rcases Yg.mp q with e|e
     .exact c e
     .have:=b1 x e;lia
    .rcases Yg.mp q with e|e
     .lia
     .have:=a1 s e;lia
    .rcases Yg.mp q with e|e
     .lia
     .have:=b1 s e;lia
   .rintro⟨t,h1,h2,h3⟩;have tx:x<=t:=by
     rcases Yg.mp h1 with e|e
     .lia
     .have:=a1 t e;lia
    refine Yx λhc=>?_;have cC:y<x:=J
    have:=(h3 y uE).mpr Xd
    rcases Yg.mp this with e|e
    .lia
    .have:=a1 y e;grind
def Rk(n:Int)(ps:Aa)(T:Ac)(r:Nat):Prop:=∃L:Ab,L.Nodup/\(∀l,l∈L↔Zf n ps l/\HT.lexLt l T=true)/\L.length=r
theorem Rk.uniq(h1:Rk n ps T c)(h2:Rk n ps T d):c=d:=by
 obtain⟨L,a1,a2,a3⟩:=h1;obtain⟨M,b1,b2,b3⟩:=h2
 have:L.Perm M:=(LM a1 b1).mpr λl=>by rw[a2,b2]
 rw[<-a3,<-b3,this.length_eq]
theorem Cj{α:Type}[DecidableEq α]:∀{l m:List α},l.Nodup->(∀x∈l,x∈m)->l.length<=m.length
 |[],_,_,_=>Yj _
 |x::l,m,hn,hs=>by
  have hx:=hs x Xd;obtain⟨h1,h2⟩:=RQ.mp hn
  have:=Cj (m:=m.erase x) h2 λy hy=>(vt λe=>h1<|by rwa[<-e]).mpr (hs y<|Yf _ hy)
  rw[JI hx]at this
  have:=Fh hx
  rw[Yt];grind
theorem cB(hT:Zf n ps T)(h1:Rk n ps T r)(h2:Rk n ps U q)(h:HT.lexLt T U=true):r<q:=by
 obtain⟨L,a1,a2,a3⟩:=h1;obtain⟨M,b1,b2,b3⟩:=h2
 have:=Cj (l:=T::L) (m:=M) (RQ.mpr ⟨λq=>absurd ((a2 T).mp q).2 (by rw[FZ];decide),a1⟩) λl hl=>by
  rcases Yg.mp hl with e|e
  .rw[e];exact(b2 T).mpr ⟨hT,h⟩
  .obtain⟨c1,c2⟩:=(a2 l).mp e;exact(b2 l).mpr ⟨c1,xC c2 h⟩
 rw[Yt]at this;grind
theorem mz(h:TC n ps c):∃d,PC n ps Is Os d:=by obtain⟨L,h1,h2,_⟩:=h;exact⟨_,L.filter λU=>decide ((∀z∈Is,z∈U)/\∀z∈Os,z∉U),h1.filter _,λU=>by rw[Yh,YV,h2],Z⟩
theorem Ip{l T O:Ac}{I:Ac}(hl:IsSet m l)(hT:IsSet m T)(tT:t∉T)(hI:∀z,z∈I↔(z∈T/\z<t)\/z=t)(hO:∀z,z∈O↔(0<=z/\z<(m:Int))/\z∉T/\z<t):((∀z∈I,z∈l)/\∀z∈O,z∉l)↔FD l T t:=by
 constructor
 .rintro⟨h1,h2⟩;refine⟨h1 t<|(hI t).mpr (.inr Z),tT,λs hs=>⟨λq=>Yx λno=>?_,λq=>h1 s<|(hI s).mpr (.inl ⟨q,hs⟩)⟩⟩;exact h2 s ((hO s).mpr ⟨hl.all s q,no,hs⟩) q
 .rintro⟨h1,_,h3⟩;refine⟨λz hz=>?_,λz hz q=>?_⟩
  .rcases(hI z).mp hz with e|e
   .exact(h3 z e.2).mpr e.1
   .rw[e];exact h1
  .obtain⟨_,e1,e2⟩:=(hO z).mp hz;exact e1 ((h3 z e2).mp q)
theorem Ci(hT:Zf n ps T)(bs:Ac)(hb:∀z,z∈bs↔(0<=z/\z<(ps.length:Int))/\z∉T)(hbn:bs.Nodup)(cs:List Nat)(Tu:cs.length=bs.length)
  (hc:∀(j:Nat)(t:Int)(c:Nat),bs[j]?=some t->cs[j]?=some c->∃I O,PC n ps I O c/\(∀z,z∈I↔(z∈T/\z<t)\/z=t)/\∀z,z∈O↔(0<=z/\z<(ps.length:Int))/\z∉T/\z<t):Rk n ps T cs.sum:=by
 have step:∀j,j<=bs.length->∃L:Ab,L.Nodup/\(∀l,l∈L↔Zf n ps l/\∃t∈bs.take j,FD l T t)/\L.length=(cs.take j).sum:=λj=>by
  induction j with
  |zero=>exact λ_=>⟨[],.nil,λl=>⟨λh=>(by cases h),λzz=>by obtain⟨_,t,h,_⟩:=zz;exact(by cases h)⟩,Z⟩
  |succ j ih=>
   intro hj;obtain⟨L,l1,l2,l3⟩:=ih J;obtain⟨t,ht⟩:∃t,bs[j]?=some t:=⟨_,Xw J⟩;obtain⟨c,cz⟩:∃c,cs[j]?=some c:=⟨_,Xw J⟩;obtain⟨I,O,⟨M,m1,m2,m3⟩,hI,hO⟩:=hc j t c ht cz;have tT:=((hb t).mp (Xi ht)).2
   have Cg:∀l,l∈M↔Zf n ps l/\FD l T t:=λl=>by rw[m2];exact⟨λzz=>by obtain⟨a,b⟩:=zz;exact⟨a,(Ip a.1 hT.1 tT hI hO).mp b⟩,λzz=>by obtain⟨a,b⟩:=zz;exact⟨a,(Ip a.1 hT.1 tT hI hO).mpr b⟩⟩
   refine⟨L++M,YM.mpr ⟨l1,m1,λx hx y hy e=>?_⟩,λl=>?_,?_⟩
   .rw[<-e]at hy;obtain⟨_,u,hu,fu⟩:=(l2 x).mp hx;have eu:=fu.uniq ((Cg x).mp hy).2
    rw[eu]at hu;obtain⟨q,hq⟩:=VX hu;rw[GQ]at hq;split at hq
    .have:=IU hbn hq ht
     lia
    .cases hq
   .rw[XE,l2,Cg,YJ,ht];constructor
    .rintro(⟨a,u,hu,fu⟩|⟨a,fu⟩)
     .exact⟨a,u,Yd _ hu,fu⟩
     .exact⟨a,t,Yi _ S,fu⟩
    .rintro⟨a,u,hu,fu⟩;rcases XE.mp hu with e|e
     .exact .inl ⟨a,u,e,fu⟩
     .have e2:u=t:=by simpa using e
      exact .inr ⟨a,e2▸fu⟩
   .rw[Xu,l3,m3,YJ,cz,List.sum_append];simp
 obtain⟨L,l1,l2,l3⟩:=step bs.length (XJ _);rw[YD]at l2;rw[<-Tu,YD]at l3;refine⟨L,l1,λl=>?_,l3⟩;rw[l2];refine EW λhl=>?_;rw[OH (XX.mp hl.1).2 (XX.mp hT.1).2 (by have:=hl.2.1;have:=hT.2.1;lia)];exact⟨λzz=>by obtain⟨t,_,f⟩:=zz;exact⟨t,f⟩,λzz=>by obtain⟨t,f⟩:=zz;exact⟨t,(hb t).mpr ⟨hl.1.all t f.1,f.2.1⟩,f⟩⟩
def BL(n:Int)(ps:Aa)(I:Ac)(t:Int)(b:Nat):Prop:=∃L:Ab,L.Nodup/\(∀l,l∈L↔Zf n ps l/\∃s,s<t/\FD l I s)/\L.length=b
section
variable{n:Int}{ps:Aa}{I O:Ac}{i b c:Nat}
theorem my(h:I=[]):BL n ps I 0 0:=by
 refine⟨[],.nil,λl=>⟨λh=>(by cases h),λzz=>?_⟩,Z⟩;obtain⟨hl,s,hs,f⟩:=zz
 have:=hl.1.all s f.1
 lia
theorem mx(hI:IsSet i I)(h:BL n ps I (i:Int) b):BL n ps (I++[(i:Int)]) ((i+1:Nat):Int) b:=by
 obtain⟨L,l1,l2,l3⟩:=h;have key:∀l s,s<(i:Int)->(FD l (I++[(i:Int)]) s↔FD l I s):=λl s hs=>by
  have m:∀u,u<(i:Int)->(u∈I++[(i:Int)]↔u∈I):=λu hu=>by rw[XE,XG];exact⟨λq=>q.resolve_right J,.inl⟩
  unfold FD;rw[m s hs];exact⟨λzz=>by obtain⟨a,b,d⟩:=zz;exact⟨a,b,λu hu=>by rw[d u hu,m u J]⟩,λzz=>by obtain⟨a,b,d⟩:=zz;exact⟨a,b,λu hu=>by rw[d u hu,m u uD]⟩⟩
 refine⟨L,l1,λl=>?_,l3⟩;rw[l2];refine EW λ_=>⟨λzz=>by obtain⟨s,hs,f⟩:=zz;exact⟨s,J,(key l s hs).mpr f⟩,λzz=>?_⟩;obtain⟨s,hs,f⟩:=zz;have To:s≠(i:Int):=λe=>f.2.1 (by rw[e];exact Yi _ S)
 exact⟨s,J,(key l s uD).mp f⟩
theorem mw(hm:i<ps.length)(hI:IsSet i I)(hO:∀z,z∈O↔(0<=z/\z<(i:Int))/\z∉I)(h:BL n ps I (i:Int) b)(hc:PC n ps (I++[(i:Int)]) O c):BL n ps I ((i+1:Nat):Int) (b+c):=by
 obtain⟨L,l1,l2,l3⟩:=h;obtain⟨M,m1,m2,m3⟩:=hc;have hI':IsSet ps.length I:=XX.mpr ⟨λz hz=>by have:=hI.all z hz;lia,(XX.mp hI).2⟩
 have tI:(i:Int)∉I:=λq=>by have:=hI.all _ q;lia
 have Cg:∀l,l∈M↔Zf n ps l/\FD l I (i:Int):=λl=>by
  rw[m2];refine EW λhl=>Ip (m:=ps.length) hl.1 hI' tI (λz=>?_) λz=>?_
  .rw[XE,XG];exact⟨λq=>q.imp_left λq=>⟨q,(hI.all z q).2⟩,λq=>q.imp_left λq=>q.1⟩
  .rw[hO];constructor
   .rintro⟨a,b⟩;exact⟨J,b,a.2⟩
   .rintro⟨a,b,d⟩;exact⟨⟨a.1,d⟩,b⟩
 refine⟨L++M,YM.mpr ⟨l1,m1,λx hx y hy e=>?_⟩,λl=>?_,by rw[Xu,l3,m3]⟩
 .rw[<-e]at hy;obtain⟨_,s,hs,f⟩:=(l2 x).mp hx
  have:=f.uniq ((Cg x).mp hy).2
  lia
 .rw[XE,l2,Cg];constructor
  .rintro(⟨a,s,hs,f⟩|⟨a,f⟩)
   .exact⟨a,s,J,f⟩
   .exact⟨a,_,J,f⟩
  .rintro⟨a,s,hs,f⟩;by_cases e:s=(i:Int)
   .exact .inr ⟨a,e▸f⟩
   .exact .inl ⟨a,s,J,f⟩
theorem mv{r:Nat}(hI:IsSet ps.length I)(hO:∀z,z∈O↔(0<=z/\z<(ps.length:Int))/\z∉I)(h:BL n ps I (ps.length:Int) b)(hc:PC n ps I O c)(hr:r<c):Zf n ps I/\Rk n ps I b/\r=0:=by
 obtain⟨L,l1,l2,l3⟩:=h;obtain⟨M,m1,m2,m3⟩:=hc;have eq:∀l∈M,l=I:=λl hl=>by obtain⟨a,q1,q2⟩:=(m2 l).mp hl;refine CK (XX.mp a.1).2 (XX.mp hI).2 λz=>⟨λhz=>Yx λno=>q2 z ((hO z).mpr ⟨a.1.all z hz,no⟩) hz,q1 z⟩
 obtain⟨l,hl⟩:∃l,l∈M:=by
  cases M with
  |nil=>simp at m3;lia
  |cons x M=>exact⟨x,Xd⟩
 have hT:Zf n ps I:=(eq l hl)▸((m2 l).mp hl).1;have hle:M.length<=1:=by
  match M,eq,m1 with
  |[],_,_=>exact Yj _
  |[_],_,_=>exact XJ 1
  |x::y::M,eq,m1=>
   have h1:=eq x Xd;have h2:=eq y (Yf _ Xd)
   exact absurd (h1.trans h2.symm) ((QP.mp m1).1 y Xd)
 refine⟨hT,⟨L,l1,λl=>?_,l3⟩,J⟩;rw[l2];refine EW λhl=>?_;rw[OH (XX.mp hl.1).2 (XX.mp hI).2 (by have:=hl.2.1;have:=hT.2.1;lia)];exact⟨λzz=>by obtain⟨s,_,f⟩:=zz;exact⟨s,f⟩,λzz=>by obtain⟨s,f⟩:=zz;exact⟨s,(hl.1.all s f.1).2,f⟩⟩
end
theorem mr{n:Int}{ps:Aa}{U V:Ac}{r:Nat}(hU:Zf n ps U)(hV:Zf n ps V)(h1:Rk n ps U r)(h2:Rk n ps V r):U=V:=by
 refine Tg (GN.mpr λh=>?_) (GN.mpr λh=>?_)
 .exact Sw _ (cB hU h1 h2 h)
 .exact Sw _ (cB hV h2 h1 h)
theorem mq{s rest:TS}{D:Ends}{σ:L2.St}{H:Hp}(P:L2.St->Hp->Prop)(h1:∀σ' H',P σ' H'->rest D σ' H')(h2:∀K:L2.St->Hp->Prop,(∀σ' H',P σ' H'->K σ' H')->s {D with nx:=K} σ H):Vc s rest D σ H:=h2 _ h1
theorem ml{c:V}{rest:TS}{D:Ends}{σ:L2.St}{H:Hp}(h:rest D (σ.set i (some c)) H):Vc (MU (tC c) (Ls i)) rest D σ H:=h
theorem cy{m:Nat}(hm:m<=30):∀k,(OV (m:Int) k).length<=30^k
 |0=>XJ 1
 |k+1=>by
  have h1:=dW (m:=m) (OV (m:Int) k) λs hs=>(VQ.mp hs).2;have h2:=cy hm k
  have h3:m*(OV (m:Int) k).length<=30*30^k:=JS hm h2;rw[Nat.pow_succ,MX];exact Yv h1 h3
theorem wZ(g:Zz n ps)(h:TC n ps c):c<10^20:=by
 obtain⟨L,hn,hm,rfl⟩:=h;obtain⟨g1,g2,g3,_⟩:=g;refine MZ (m:=30^13) (Yv (Cj (m:=OV (ps.length:Int) (n-1).toNat) hn λx hx=>VQ.mpr ⟨?_,((hm x).mp hx).1⟩)<|Yv (cy J _)<|vy uB uD) uB
 have:=((hm x).mp hx).2.1
 lia
theorem mj(g:Zz n ps):∃L:Ab,(∀l,l∈L↔Zf n ps l)/\L.Pairwise VP:=⟨TB n.toNat ps (n-1).toNat,λ_=>pK g,(KO _ _).filter _⟩
theorem Cf:PC n ps [] [] c↔TC n ps c:=by
 constructor
 .rintro⟨L,h1,h2,h3⟩;exact⟨L,h1,λl=>by rw[h2 l];exact⟨λh=>h.1,λh=>⟨h,λz hz=>(by cases hz),λz hz=>(by cases hz)⟩⟩,h3⟩
 .rintro⟨L,h1,h2,h3⟩;exact⟨L,h1,λl=>by rw[h2 l];exact⟨λh=>⟨h,λz hz=>(by cases hz),λz hz=>(by cases hz)⟩,λh=>h.1⟩,h3⟩
def ev(b:Int):Ac->Int
 |[]=>0
 |d::l=>d+b*ev b l
abbrev Io(ls:Ac)(z:Int):Int:=ls.getD z.toNat 0
def lwS(ls:Ac)(x:Int):Ac:=(Wi ls.length).filter λz=>decide (Io ls z<x)
def mA(N:Nat)(ps:Aa)(ls:Ac)(x:Int):Ac:=Xs N (XR ps<|lwS ls x)
def lvl(ls:Ac)(x:Int)(i:Nat):Ac:=(Wi i).filter λz=>decide (Io ls z=x)
def Ce(ls T:Ac):Int:=(T.map<|Io ls).sum
section
variable{n:Int}{ps:Aa}{T:Ac}(g:Zz n ps)
include g
theorem mi(hT:Zf n ps T)(hW:Zf n ps W)(h:∀z∈T,z∈W):T.Perm W:=by
 have:=cJ (l:=W) hT.1.nodup (by have:=hT.2.1;have:=hW.2.1;lia) h
 exact this.symm
end
theorem mh(hT:Zf n ps T)(hW:Zf n ps W):(T.filter λy=>decide (y∉W)).length=(W.filter λy=>decide (y∉T)).length:=by
 have e1:=dN (λy=>decide<|y∈W) T;have e2:=dN (λy=>decide<|y∈T) W
 have p:(T.filter λy=>decide<|y∈W).Perm (W.filter λy=>decide<|y∈T):=(LM (hT.1.nodup.filter _)<|hW.1.nodup.filter _).mpr λy=>by rw[Yh,Yh,YV,YV];exact And.comm
 have f1:(T.filter λy=>decide<|y∉W)=T.filter λy=>!decide (y∈W):=LH λy _=>S;have f2:(W.filter λy=>decide<|y∉T)=W.filter λy=>!decide (y∈T):=LH λy _=>S
 have:=p.length_eq
 have h1:=hT.2.1;have h2:=hW.2.1
 rw[f1,f2];lia
end My
namespace HT
open PySem PyProof.Rows
section
def ltP(x y:Int×Ac):Bool:=decide (x.1<y.1)||(decide (x.1=y.1)&&lexLt x.2 y.2)
end
end HT
namespace My
open PySem L2
section
variable{one d0 d1:Int}{other:Option Int}
def fF(one:Int)(other:Option Int)(d0 d1 y:Int):Int:=if y=one then d0 else if some y=other then d1 else y
end
end My
namespace L2
open PySem PySem.Spec PyProof.Rows
def TL(l:List Str):List V:=l.map V.str
theorem cx:∀{l:List Str}{us:Ag},Vals (TL l) us->∃k:List (Str×Tok),us=strValues k/\k.map (λx=>x.fst)=l
 |[],_,.nil=>⟨[],Z,Z⟩
 |x::l,_,.cons r t=>by obtain⟨tk,rfl⟩:=r;obtain⟨k,rfl,h⟩:=cx (l:=l) t;exact⟨(x,tk)::k,Z,by rw[UI,h]⟩
section
variable{X:Cx}
inductive rJoin(K:Ad)(x:V)(vs:List V)(H:Hp)(Q:VK):Prop
 |mk (sep a l:_) (_:x=.str sep) (_:vs=[.ref a]) (_:SqL K H a (TL l)) (_:JoinOk sep l=true) (_:Q (.str<|sep.join l) H)
theorem Cd(K:Ad)(h:X.K=K:=by rfl):NI X "str.join" (rJoin K):=by subst h;intro pins s σ H x vs v us Q I rx rv h;obtain⟨sep,a,l,rfl,rfl,hq,hj,q⟩:=h;obtain⟨tk,rfl⟩:=rx;obtain⟨u,rfl,ru⟩:=rv.one;cases ru;obtain⟨XT,r,pl,hz⟩:=I.list hq;obtain⟨k,rfl,hk⟩:=cx r;refine PySem.SC.join pl.isList hk hj λt' n=>⟨.str _,H,I.tok n,⟨t',Z⟩,?_⟩;rwa[show Txt.join sep l=sep.join l from PySem.StrLaws.glued_eq_join sep l]
theorem wY:Vx X (.type "str") (λxs H Q=>∃i:Int,xs=[.int i]/\-(10^70)<i/\i<10^70/\Q (.str (Str.ofString (toString i))) H):=by intro pins s σ H xs us Q I r h;obtain⟨i,rfl,h1,h2,q⟩:=h;exact ZS4 pins s σ H _ us Q I r ⟨i,Z,ZM8 h1 h2,q⟩
end
theorem Cc:∀l n,Vals (TL l) (strsFrom n l)
 |[],_=>.nil
 |_::l,n=>.cons ⟨n,Z⟩ (Cc l<|n+1)
section
variable{X:Cx}
inductive rSplit(x:V)(vs:List V)(H:Hp)(Q:VK):Prop
 |mk (z y:_) (_:x=.str z) (_:vs=[.str y]) (_:(y.length == 0)=false) (_:z.length<=sizeLine) (_:(Txt.split z y).length<=sizeLine) (_:∀p,H p=none->Q (.ref p) (upd H p<|.lst<|TL<|Txt.split z y))
theorem Cb:NI X "str.split" rSplit:=by
 intro pins s σ H x vs v us Q I rx rv h;obtain⟨z,y,rfl,rfl,hy,hz,hl,q⟩:=h;obtain⟨t,rfl⟩:=rx;obtain⟨u,rfl,ru⟩:=rv.one;obtain⟨u',rfl⟩:=ru;have self:Txt.split z y=[z]->EP X pins σ Q (.ref s.heap.objs.size) {s with heap:=s.heap.push {cls:=.type "list",data:=.seq #[.str z t]} }:=λe=>by rw[e]at q;refine⟨.ref s.heap.objs.size,_,I.laid (t':=s.toks) (o:=.lst<|TL [z]) (λb ob q=>Xc _ q) (XJ _) ?_,Z,q _<|I.hok.fresh<|XJ _⟩;exact⟨by rw[e]at hl;exact hl,[.str z t],0,.cons ⟨t,Z⟩ .nil,Yk _ Z⟩
 by_cases c1:(decide (z.length<y.length)||decide (Builtin.Str.strKind z<Builtin.Str.strKind y))=true
 .have e:Txt.split z y=[z]:=by unfold Txt.split;rw[if_pos c1]
  exact NM Fl (Gy _ _ _) vG (JK _ _) (meets_str_split_cannot_occur z y t u' c1) (self e)
 .have cu:=GN.mpr c1;by_cases c2:(Builtin.Str.occurrences z y 0 z.length<|z.length+1).isEmpty=true
  .have e:Txt.split z y=[z]:=by unfold Txt.split;rw[if_neg c1,if_pos c2]
   exact NM Fl (Gy _ _ _) vG (JK _ _) (meets_str_split_not_found z y t u' cu hy c2) (self e)
  .have e:Txt.split z y=Builtin.Str.partsBetween z (Builtin.Str.occurrences z y 0 z.length<|z.length+1) y.length:=by unfold Txt.split;rw[if_neg c1,if_neg c2]
   rw[e]at hl q;refine NM Fl (Gy _ _ _) vG (JK _ _) (meets_str_split_sep z y t u' cu hy (GN.mpr c2) hz hl) ?_;refine⟨.ref s.heap.objs.size,_,I.laid (o:=.lst<|TL<|Builtin.Str.partsBetween z (Builtin.Str.occurrences z y 0 z.length<|z.length+1) y.length) (λb ob q=>Xc _ q) (XJ _) ?_,Z,q _<|I.hok.fresh<|XJ _⟩;exact⟨by unfold TL;rw[Yb];exact hl,_,0,Cc _ _,Yk _ Z⟩
inductive rStarts(x:V)(vs:List V)(H:Hp)(Q:VK):Prop
 |mk (z y:_) (_:x=.str z) (_:vs=[.str y]) (_:Q (.bl<|Txt.startswith z y) H)
theorem ZD8:NI X "str.startswith" rStarts:=by intro pins s σ H x vs v us Q I rx rv h;obtain⟨z,y,rfl,rfl,q⟩:=h;obtain⟨t,rfl⟩:=rx;obtain⟨u,rfl,ru⟩:=rv.one;obtain⟨u',rfl⟩:=ru;exact PySem.SC.startswith ⟨.bl _,H,I,Z,q⟩
theorem Zd9:Vx X (.type "int") (λxs H Q=>∃z n,xs=[.str z]/\intText? z=some n/\z.length<=640/\Q (.int n) H):=by intro pins s σ H xs us Q I r h;obtain⟨z,n,rfl,hz,hl,q⟩:=h;obtain⟨u,rfl,ru⟩:=WL r;obtain⟨t,rfl⟩:=ru;exact PySem.W.KIN.call_text hz hl ⟨.int n,H,I.tok _,⟨_,Z⟩,q⟩
def mf(z:Str):It:=⟨λi _=>i<z.cps.size,λi H x H'=>H'=H/\∃c,z.cps[i]?=some c/\x=.str ⟨#[c]⟩,λi _=>z.cps.size<=i⟩
theorem Zc8{P:Program}{w:World}{K:Ad}{tg:Expr}(z:Str)(t:Tok)(it:Addr):Turn P w K tg (mf z) [it] it (λi h=>h.IsStrIter it "str_ascii_iterator" z t i) where
 mem:=S
 obj:=λi h st b hb=>by
  have e:b=it:=by simpa using hb
  subst e;obtain⟨o,e,c,d⟩:=st;exact⟨o,e,λv z=>by rw[d]at z;cases z⟩
 keep:=λi h h' st k=>by obtain⟨o,e,c,d⟩:=st;exact⟨o,k it S o e,c,d⟩
 item:=by
  intro X hP hw hK hc i pins s σ H E I hf st hg;subst hP hw hK;obtain⟨c,WI⟩:∃c,z.cps[i]?=some c:=⟨_,YH hg⟩;obtain⟨f0,f1,f2,f3,f4,f5⟩:=hf it S;refine wpAny_pyNext_ascii_item st WI λh' VD sb=>?_;have I1:Inv X pins σ H {s with heap:=h',toks:=s.toks+1}:=I.turned (λb o hb e=>(sb.2 b hb).trans e) f0 f1 f3 f4 f5
  obtain⟨o,e,c',d⟩:=id VD;exact⟨_,Z,QZ (s:={s with heap:=h',toks:=s.toks+1}) e c' d uB ⟨.str ⟨#[c]⟩,H,I1,⟨_,Z⟩,⟨Z,c,WI,Z⟩,VD,λb hb=>(hf b hb).1⟩⟩
 done:=by intro X hP hw hK hc i pins s σ H E I hf st hg;subst hP hw hK;obtain⟨f0,f1,f2,f3,f4,f5⟩:=hf it S;exact wpAny_pyNext_ascii_end (I.ok.hd hc) st (Fg hg) λh' eb=>⟨Z,I.turned (t':=s.toks) (λb o hb e=>eb b o hb e) f0 f1 f3 f4 f5⟩
 self:=λ_ _ _ _ _ st h=>wpAny_pyIter_striter_ascii st h
def me(tl:TE):TI:=λσ H R=>tl σ H λx H1=>∃z:Str,x=.str z/\(z.cps.all λc=>decide<|c<128)=true/\R (mf z) H1
theorem md{l tg:Expr}{tl:TE}(hl:PE X l tl):PI X tg l (me tl):=by
 intro pins s σ H R I h;refine thn (hl pins s σ H _ I h) λv s1 Xv=>?_;obtain⟨x,H1,I1,r1,q1⟩:=Xv;obtain⟨z,e,ha,q⟩:=q1;subst e;obtain⟨t,rfl⟩:=r1;refine wpAny_pyIter_ascii ha ?_;refine⟨s1.heap.objs.size,[s1.heap.objs.size],_,_,H1,Z,I1.kept (t':=s1.toks) λb o e=>Xc _ e,Zc8 z t _,⟨_,Yk _ Z,Z,Z⟩,λb hb=>?_,q⟩;have e:b=s1.heap.objs.size:=by simpa using hb
 subst e;exact I1.fpOk (XJ _) (I1.hok.fresh<|XJ _)
inductive rSlS(x:V)(lo:Option Int)(hi:Option Int)(H:Hp)(Q:VK):Prop
 |mk (z:Str) (_:x=.str z) (_:(StrLaws.sliceText z lo hi).length<=sizeLine) (_:Q (.str<|StrLaws.sliceText z lo hi) H)
theorem cq(h:IsPart v o):∃l:Option (Int×Tok),v=partValue l/\l.map (λx=>x.fst)=o:=by
 cases h with
 |none=>exact⟨none,Z,Z⟩
 |int i t=>exact⟨some (i,t),Z,Z⟩
theorem ma:yf X rSlS:=by
 intro pins s σ H x v vl vu lo hi sl Q I rx hs pl pu h;obtain⟨z,rfl,hz,q⟩:=h;obtain⟨t,rfl⟩:=rx;refine⟨"str",_,slot_str_getitem.lookup,Gy s z t,?_⟩;obtain⟨l,rfl,e1⟩:=cq pl;obtain⟨u,rfl,e2⟩:=cq pu;subst e1 e2;refine wpAny_getItem_str_slice (l:=l) (u:=u) (st:=none) hs uG ?_;unfold StrLaws.sliceText at hz q;unfold sliceMade slicePicked;show Made.post (if (1 == 1&&(Builtin.Str.strSliceIndices (l.map λx=>x.fst) (u.map λx=>x.fst) 1 z.length).length == z.length)=true then _ else _) _ s
 split at hz
 .rename_i c;rw[if_pos c]at q;rw[if_pos c];exact⟨.str z,H,I,⟨t,Z⟩,q⟩
 .rename_i c;rw[if_neg c]at q;rw[if_neg c];exact⟨hz,.str _,H,I.tok _,⟨_,Z⟩,q⟩
end
end L2
namespace My
open PySem L2
section
variable{g:TG}{tt:TT}{te:TE}{o:Nat}{fr:List Nat}{σ:L2.St}{H:Hp}{Q:VK}
theorem Ca(Pv:Nat->List V->Hp->Prop)(h0:Pv 0 [] H)(hz:z.cps.size<sizeLine)(hl:∀i ys H,i<=z.cps.size->Pv i ys H->ys.length<=i)
  (hs:∀i c ys H,z.cps[i]?=some c->Pv i ys H->IV Pv g tt te o fr σ i (.str ⟨#[c]⟩) ys H)(hd:∀ys H,Pv z.cps.size ys H->∀p,H p=none->Q (.ref p) (upd H p<|.lst ys)):MI (mf z) g tt te o fr σ H Q:=by
 refine⟨λi m ys H=>m=z.cps.size-i/\i<=z.cps.size/\Pv i ys H,⟨z.cps.size,S,Yj _,h0⟩,?_⟩;rintro i m ys H ⟨rfl,hi,p⟩;have hy:=hl i ys H hi p
 by_cases Xn:i<z.cps.size
 .refine .inr ⟨Xn,J,λx H' zz=>?_⟩;obtain⟨e,c,hc,y⟩:=zz;subst e;subst y;exact hs i c ys _ hc p (λj ys H=>∃m',m'<z.cps.size-i/\m'=z.cps.size-j/\j<=z.cps.size/\Pv j ys H) λys H p'=>⟨z.cps.size-(i+1),uE,Z,Xn,p'⟩
 .have e:i=z.cps.size:=J;subst e;exact .inl ⟨XJ _,J,hd ys H p⟩
end
def nT(i:Int):Str:=Str.ofString (toString i)
def dg(m:Nat):List Nat:=(Nat.toDigits 10 m).map Char.toNat
def Nt(i:Int):List Nat:=if i<0 then 45::dg i.natAbs else dg i.natAbs
theorem OG(i:Int):(nT i).cps.toList=Nt i:=by
 unfold nT Nt;cases i with
 |ofNat m=>
  rw[if_neg (show ¬Int.ofNat m<0 from GB.mpr<|Int.natCast_nonneg m)];exact W.KIN.signs_num m
 |negSucc m=>
  rw[if_pos (Int.negSucc_lt_zero m)];have e:(Str.ofString<|toString ((m+1:Nat):Int)).cps.toList=dg (m+1):=W.KIN.signs_num (m+1)
  rw[Str.ofString_eq_toList]at e ⊢;have e2:(toString<|Int.negSucc m).toList='-'::(toString ((m+1:Nat):Int)).toList:=by show("-"++toString (m+1)).toList='-'::(toString<|m+1).toList;rw[String.toList_append];rfl
  rw[e2,UI];show 45::List.map Char.toNat _=45::dg (m+1)
  rw[<-e]
theorem cn{d:Nat}(h:d<10):(Nat.digitChar d).toNat=48+d:=(by decide:∀d<10,(Nat.digitChar d).toNat=48+d) d h
theorem RD(h:m<10):dg m=[48+m]:=by unfold dg;rw[Nat.toDigits_of_lt_base h,vn,cn h]
theorem RC(h:10<=m):dg m=dg (m/10)++[48+m%10]:=by unfold dg;rw[Nat.toDigits_of_base_le uB h,YG,vn,cn (Nat.mod_lt _ uB)]
theorem FP(m:Nat):NumText.AllDigits (dg m):=by
 induction m using Nat.strongRecOn with
 |ind m ih=>
  intro c hc;by_cases h:m<10
  .rw[RD h]at hc
   have:=XG.mp hc
   lia
  .rw[RC J]at hc;rcases XE.mp hc with q|q
   .exact ih (m/10) J c q
   .have:=XG.mp q
    grind
theorem RB(m:Nat):dg m≠[]:=by
 by_cases h:m<10
 .rw[RD h];simp
 .rw[RC uD];simp
theorem BZ(m:Nat):NumText.digitsVal (dg m)=m:=by
 induction m using Nat.strongRecOn with
 |ind m ih=>
  by_cases h:m<10
  .rw[RD h];show 0*10+(48+m-48)=m
   lia
  .rw[RC uD,NumText.digitsVal_snoc,ih (m/10) uD];lia
theorem BY{m k:Nat}(hk:1<=k)(h:m<10^k):(dg m).length<=k:=by unfold dg;rw[Yb];exact toDigits_len_pow uB hk h
theorem l9(h:0<m):∃c r,dg m=c::r/\c≠48:=by
 induction m using Nat.strongRecOn with
 |ind m ih=>
  by_cases c:m<10
  .exact⟨48+m,[],RD c,J⟩
  .obtain⟨a,r,e,ne⟩:=ih (m/10) uD J;exact⟨a,r++[48+m%10],by rw[RC uD,e];rfl,ne⟩
theorem TQ(x:Str):x.length=x.cps.toList.length:=by show x.cps.size=_;rw[YE]
theorem cm{x y:Str}(h:x.cps.toList=y.cps.toList):x=y:=Str.ext' (Array.toList_inj.mp h)
theorem l8{k:Nat}(hk:1<=k)(h1:-(10^k)<i)(h2:i<10^k):(Nt i).length<=k+1:=by
 have e:((10^k:Nat):Int)=(10:Int)^k:=by rw[Int.natCast_pow];rfl
 rw[<-e]at h1 h2
 have:=BY hk (m:=i.natAbs) uE
 unfold Nt;split
 .rw[Yt];lia
 .lia
theorem OF{k:Nat}(hk:1<=k)(h1:-(10^k)<i)(h2:i<10^k):(nT i).length<=k+1:=by rw[TQ,OG];exact l8 hk h1 h2
theorem l7{k:Nat}(hk:1<=k)(h4:k<=4000)(h1:-(10^k)<i)(h2:i<10^k):intText? (nT i)=some i:=by
 have hl:=OF hk h1 h2;have e:=OG i
 unfold Nt at e;split at e
 .rw[intText_neg e (FP _) (RB _) J,BZ];congr 1;grind
 .rw[intText_digits (by rw[e];exact FP _) (by rw[e];exact RB _) uD,e,BZ];congr 1;lia
def Wk(cs:List Nat):List Nat:=if cs.head?=some 45 then cs.tail else cs
def QD(cs:List Nat):Bool:=decide (1<=(Wk cs).length/\(Wk cs).length<=60/\(∀c∈Wk cs,48<=c/\c<=57)/\(cs=[48]\/(Wk cs).head?≠some 48))
theorem l6(m:Nat):(dg m).head?≠some 45:=λh=>by
 cases e:dg m with
 |nil=>exact RB m e
 |cons c r=>
  rw[e]at h;have hc:c=45:=Ye h
  have:=FP m c (by rw[e];exact Xd)
  lia
theorem lZ(i:Int):Wk (Nt i)=dg i.natAbs:=by
 unfold Wk Nt;split
 .rfl
 .rw[if_neg (l6 _)]
theorem lY(h1:-(10^60)<i)(h2:i<10^60):QD (Nt i)=true:=by
 refine Yp ?_;rw[lZ];refine⟨List.length_pos_iff.mpr<|RB _,BY (k:=60) uB uD,FP _,?_⟩;by_cases c:i=0
 .subst c;exact .inl rfl
 .obtain⟨a,r,e,ne⟩:=l9 (m:=i.natAbs) J;refine .inr ?_;rw[e];intro q;exact ne (Ye q)
def jn(c:Nat):List (List Nat)->List Nat
 |[]=>[]
 |[a]=>a
 |a::b::l=>a++c::jn c (b::l)
theorem OE(c:Nat):∀l:List Str,(Str.join ⟨#[c]⟩ l).cps.toList=jn c (l.map λx=>x.cps.toList)
 |[]=>rfl
 |[a]=>rfl
 |a::b::l=>by
  have ih:=OE c (b::l);show((a++⟨#[c]⟩++Str.join ⟨#[c]⟩ (b::l)):Str).cps.toList=a.cps.toList++c::jn c ((b::l).map λx=>x.cps.toList)
  rw[<-ih,Str.cps_append,Str.cps_append,vp,vp,Wd];rfl
theorem cg{c:Nat}:∀{a b x y:List Nat},c∉a->c∉b->a++c::x=b++c::y->a=b/\x=y
 |[],[],_,_,_,_,e=>⟨Z,(ET e).2⟩
 |[],b::bs,_,_,_,hb,e=>absurd (Xd) ((ET e).1▸hb)
 |a::as,[],_,_,ha,_,e=>absurd (Xd) ((ET e).1▸ha)
 |a::as,b::bs,x,y,ha,hb,e=>by obtain⟨e1,e2⟩:=ET e;obtain⟨h1,h2⟩:=cg (a:=as) (b:=bs) (λh=>ha<|Yf _ h) (λh=>hb<|Yf _ h) e2;exact⟨by rw[e1,h1],h2⟩
theorem BX:∀{A uw:List (List Nat)},A≠[]->uw≠[]->(∀a∈A,c∉a)->(∀b∈uw,c∉b)->jn c A=jn c uw->A=uw
 |[],_,h,_,_,_,_=>absurd Z h
 |_,[],_,h,_,_,_=>absurd Z h
 |[a],[b],_,_,_,_,e=>by have e:a=b:=e;rw[e]
 |[a],b::b'::uw,_,_,ha,_,e=>by have e:a=b++c::jn c (b'::uw):=e;exact absurd (by rw[e];simp) (ha a Xd)
 |a::a'::A,[b],_,_,_,hb,e=>by have e:a++c::jn c (a'::A)=b:=e;exact absurd (by rw[<-e];simp) (hb b Xd)
 |a::a'::A,b::b'::uw,_,_,ha,hb,e=>by obtain⟨e1,e2⟩:=cg (ha a Xd) (hb b Xd) (show a++c::jn c (a'::A)=b++c::jn c (b'::uw) from e);rw[e1,BX (A:=a'::A) (uw:=b'::uw) S S (λx hx=>ha x<|Yf _ hx) (λx hx=>hb x<|Yf _ hx) e2]
theorem lX(x y:Str):Txt.split x y≠[]:=by
 unfold Txt.split;split
 .simp
 .split
  .simp
  .rw[StrLaws.partsBetween_eq];obtain⟨p,r,e⟩:=StrLaws.partsFrom_ne x y.length 0 (Builtin.Str.occurrences x y 0 x.length<|x.length+1);rw[e];simp
theorem cf{c:Nat}{l:List Str}(hl:l≠[])(hf:∀p∈l,c∉p.cps.toList):Txt.split (Str.join ⟨#[c]⟩ l) ⟨#[c]⟩=l:=by
 have e:=StrLaws.join_split (Str.join ⟨#[c]⟩ l) ⟨#[c]⟩;have e2:=Xy (λx:Str=>x.cps.toList) e
 rw[OE,OE]at e2;have m:=BX (by simpa using lX _ _) (by simpa using hl) (λa ha=>by
  obtain⟨p,hp,rfl⟩:=Yz.mp ha;exact StrLaws.split_free _ c p hp) (λa ha=>by obtain⟨p,hp,rfl⟩:=Yz.mp ha;exact hf p hp) e2
 exact(List.map_inj_right λx y h=>cm h).mp m
theorem QC{mg:Af}{z:Str}{v:Value}(X:K.In h)(G:h.Ns mainGlobals mg)(a:PySem.W.nsIn K mainGlobals x=some (some v))(e:∃tk,v=.str z tk):∃tk,mg x=some (.str z tk):=by obtain⟨tk,rfl⟩:=e;exact⟨tk,EU X G a⟩
def Qd:Str:=Str.ofString " "
def BW:Str:=Str.ofString "\n"
def VA(p:Int×Int)(l:Int):Str:=Str.join Qd [Str.ofString "tie",nT p.1,nT p.2,nT l]
def Wx(n:Int)(ps:Aa)(ls:Ac):List Str:=(Str.ofString "places "++nT n)::List.zipWith VA ps ls
def Se(n:Int)(ps:Aa)(ls:Ac):Str:=Str.join BW (Wx n ps ls)
theorem OD:Qd=⟨#[32]⟩:=by rfl
theorem Im:BW=⟨#[10]⟩:=by rfl
theorem cb(n:Int):Str.ofString "places "++nT n=Str.join Qd [Str.ofString "places",nT n]:=by have e:Str.ofString "places "=Str.ofString "places"++Qd:=uG;rw[e];rfl
theorem BV{c:Nat}(h:c∈Nt i):c=45\/48<=c/\c<=57:=by
 unfold Nt at h;split at h
 .rcases Yg.mp h with e|e
  .exact .inl e
  .exact .inr (FP _ c e)
 .exact .inr (FP _ c h)
theorem b9{c:Nat}(h1:c≠45)(h2:c<48\/57<c):c∉(nT i).cps.toList:=λh=>by rw[OG]at h;rcases BV h with e|e<;>lia
theorem lW(i:Int):((nT i).cps.all λc=>decide (c<128))=true:=by rw[<-Array.all_toList,OG,Ro];intro c hc;refine Yp ?_;rcases BV hc with e|e<;>lia
theorem BU{c x:Nat}:∀{A:List (List Nat)},x∈jn c A->x=c\/∃a∈A,x∈a
 |[],h=>by cases h
 |[a],h=>.inr ⟨a,Xd,h⟩
 |a::b::A,h=>by
  have h:x∈a++c::jn c (b::A):=h;rcases XE.mp h with h|h
  .exact .inr ⟨a,Xd,h⟩
  .rcases Yg.mp h with h|h
   .exact .inl h
   .rcases BU h with e|⟨y,hy,hx⟩
    .exact .inl e
    .exact .inr ⟨y,Yf _ hy,hx⟩
theorem BS{c uw:Nat}:∀{A:List (List Nat)},(∀a∈A,a.length<=uw)->(jn c A).length<=A.length*(uw+1)
 |[],_=>Yj _
 |[a],h=>by
  have:=h a Xd
  show a.length<=1*(uw+1);lia
 |a::b::A,h=>by
  have h1:=h a Xd;have ih:=BS (c:=c) (A:=b::A) λx hx=>h x (Yf _ hx)
  show(a++c::jn c (b::A)).length<=_;rw[Xu,Yt,Yt,Nat.add_mul];lia
theorem lU{c uw:Nat}{l:List Str}(h:∀a∈l,a.length<=uw):(Str.join ⟨#[c]⟩ l).length<=l.length*(uw+1):=by rw[TQ,OE];refine Yv (BS (uw:=uw) λa ha=>?_) (by rw[Yb];exact XJ _);obtain⟨p,hp,rfl⟩:=Yz.mp ha;rw[<-TQ];exact h p hp
theorem b8{c uw:Nat}{l:List Str}(h:∀a∈l,a.length<=uw)(hl:l.length*uw+l.length<=16777216):JoinOk ⟨#[c]⟩ l=true:=by unfold JoinOk;rw[StrLaws.joinFits h (by show l.length*uw+l.length*1<=_;lia)];rfl
def Told(l:Ac):Prop:=∀z∈l,-(10^60)<z/\z<(10:Int)^60
theorem lT(h:Told l):∀a∈l.map nT,a.length<=61:=λa ha=>by obtain⟨z,hz,rfl⟩:=Yz.mp ha;exact OF (k:=60) uB (h z hz).1 (h z hz).2
theorem BR{name:Str}{l:Ac}(hn:32∉name.cps.toList):Txt.split (Str.join Qd (name::l.map nT)) Qd=name::l.map nT:=by
 rw[OD];refine cf S λp hp=>?_;rcases Yg.mp hp with e|e
 .rw[e];exact hn
 .obtain⟨z,_,rfl⟩:=Yz.mp e;exact b9 uB (.inl uB)
theorem b7{name:Str}{l:Ac}(hn:10∉name.cps.toList):10∉(Str.join Qd (name::l.map nT)).cps.toList:=λh=>by
 rw[OD,OE]at h;rcases BU h with e|⟨a,ha,hx⟩
 .cases e
 .obtain⟨p,hp,rfl⟩:=Yz.mp ha;rcases Yg.mp hp with e|e
  .rw[e]at hx;exact hn hx
  .obtain⟨z,_,rfl⟩:=Yz.mp e;exact b9 uB (.inl uB) hx
theorem BQ:Txt.split (Se n ps ls) BW=Wx n ps ls:=by
 unfold Se;rw[Im];refine cf (by unfold Wx;simp) λp hp=>?_;rcases Yg.mp hp with e|e
 .rw[e,cb];exact b7 (l:=[n]) uB
 .obtain⟨i,hi,e⟩:=Ri e;rw[List.getElem_zipWith]at e;rw[<-e];exact b7 (l:=[_,_,_]) uB
theorem Zk8(w:Str):Txt.startswith w (Str.ofString "-")=decide (w.cps.toList.head?=some 45):=by
 have h:=StrLaws.subAt_one w 45 0;have e:Str.ofString "-"=⟨#[45]⟩:=uG
 rw[e];unfold Txt.startswith;rw[List.head?_eq_getElem?];by_cases c:w.cps.toList[0]?=some 45
 .obtain⟨h1,h2⟩:=h.mpr c;rw[Yp c,h2,Bool.and_true];exact Yp h1
 .rw[YR c];refine GN.mpr λq=>c (h.mp ?_);obtain⟨q1,q2⟩:=Bool.and_eq_true_iff.mp q;exact⟨Yr q1,q2⟩
theorem ZC6(h:1<=w.cps.toList.length):(StrLaws.sliceText w (some 1) none).cps.toList=w.cps.toList.tail:=by
 rw[StrLaws.sliceText_from (i:=1) ⟨uB,J⟩];show(List.take _<|List.drop 1 _)=_
 rw[List.drop_one];refine YO ?_;rw[yU];omega
theorem lS(c:Nat):(!(!(Builtin.Str.occurrences (Str.ofString "0123456789") ⟨#[c]⟩ 0 (Str.ofString "0123456789").length 1).isEmpty))=!decide (48<=c/\c<=57):=by
 rw[StrLaws.found_one];congr 1;have e:(Str.ofString "0123456789").cps.toList=[48,49,50,51,52,53,54,55,56,57]:=uG
 rw[e];refine EX.mpr ⟨λh=>?_,λh=>?_⟩
 .simp at h;omega
 .simp;lia
theorem BP{i:Nat}{v:V}(h:(TL l)[i]?=some v):∃x,v=.str x/\l[i]?=some x:=by unfold TL at h;rw[Yl]at h;obtain⟨x,hx,rfl⟩:=gc.mp h;exact⟨x,Z,hx⟩
theorem FO(l:List Str):(TL l).length=l.length:=by unfold TL;rw[Yb]
theorem lR(l:List Str)(x:Str):TL l++[.str x]=TL (l++[x]):=by unfold TL;rw[YG];rfl
theorem lQ{ps:Aa}{ls:Ac}{p:Int×Int}{l:Int}(hp:ps[i]?=some p)(hl:ls[i]?=some l):Wx n (ps.take (i+1)) (ls.take (i+1))=Wx n (ps.take i) (ls.take i)++[VA p l]:=by
 have h1:=(Xr.mp hp).1;have h2:=(Xr.mp hl).1
 unfold Wx;rw[YJ,YJ,hp,hl];rw[List.zipWith_append (by rw[Yn,Yn];grind)];rfl
theorem lP(hl:ls.length=ps.length):(Wx n ps ls).length=ps.length+1:=by unfold Wx;rw[Yt,Nj];grind
theorem BO(h:Told [p.1,p.2,l]):(VA p l).length<=400:=by
 unfold VA;rw[OD];refine Yv (lU (uw:=61) (l:=Str.ofString "tie" :: [p.1,p.2,l].map nT) λa ha=>?_) (show 4*(61+1)<=400 by decide);rcases Yg.mp ha with e|e
 .rw[e];decide
 .exact lT h a e
theorem lO(g:Zz n ps)(hT:Told ls){i:Nat}{p:Int×Int}{l:Int}(hp:ps[i]?=some p)(hl:ls[i]?=some l):Told [p.1,p.2,l]:=λz hz=>by
 have:=g.2.2.2 p (Xi hp)
 have:=g.2.1
 rcases Yg.mp hz with e|e
 .omega
 .rcases Yg.mp e with e|e
  .grind
  .rw[XG.mp e];exact hT l (Xi hl)
theorem bZ(g:Zz n ps)(hT:Told ls):∀a∈Wx n ps ls,a.length<=400:=λa ha=>by
 rcases Yg.mp ha with e|e
 .rw[e,TQ,Str.cps_append,vp,Xu,<-TQ,<-TQ]
  have:=OF (i:=n) (k:=60) uB (by have:=g.1;omega) (by have:=g.2.1;omega)
  have e2:(Str.ofString "places ").length=7:=uB;lia
 .obtain⟨i,hi,e⟩:=Ri e;rw[List.getElem_zipWith]at e;rw[<-e];rw[Nj]at hi;exact BO (lO g hT (i:=i) (Xw uE)<|Xw uE)
abbrev Tr:=Int×Aa×Ac
end My
namespace My
open PySem PySem.W PyProof.Rows
def Ul{α:Type}(c:Nat->Nat->Bool):KasT α->α
 | .ret a=>a
 | .ask i j k=>Ul c (k<|c i j)
theorem FN{α β:Type}{c:Nat->Nat->Bool}{f:α->KasT β}:∀t:KasT α,Ul c (t.bind f)=Ul c (f (Ul c t))
 | .ret _=>rfl
 | .ask i j k=>FN (k<|c i j)
section
variable{n:Nat}{key:Nat->Int}
def Ahd(key:Nat->Int)(i j:Nat):Prop:=key i<key j\/(key i=key j/\i<j)
theorem Ahd.trans{i j k:Nat}(h1:Ahd key i j)(h2:Ahd key j k):Ahd key i k:=by unfold Ahd at *;grind
structure Ord(n m:Nat)(p:Array Nat):Prop where
 perm:p.Perm (List.range n).toArray
 suf:∀i,m<=i->i<n->p.getD i 0=i
theorem Ord.size(h:Ord n m p):p.size=n:=by rw[h.perm.size_eq];simp
theorem Mq{p:Array Nat}(h:i<p.size):p[i]?=some (p.getD i 0):=by rw[YC,YH h];rfl
theorem Ord.inj(h:Ord n m p)(hi:i<n)(hj:j<n)(e:p.getD i 0=p.getD j 0):i=j:=by
 have hn:p.toList.Nodup:=(zd.mp h.perm).nodup_iff.mpr List.nodup_range;have hs:=h.size
 have e1:=Mq (p:=p) (i:=i) J;have e2:=Mq (p:=p) (i:=j) J
 rw[<-YW]at e1 e2;exact(yZ (i:=i) (j:=j) (by rw[YE];omega) hn).mp (by rw[e1,e2,e])
theorem Ord.lt(h:Ord n m p)(hm:m<=n)(hi:i<m):p.getD i 0<m:=by
 by_cases hc:p.getD i 0<m
 .exact hc
 .have hs:=h.size;have hb:p.getD i 0<n:=by have e1:=Mq (p:=p) (i:=i) uE;rw[<-YW]at e1;exact YK.mp ((zd.mp h.perm).mem_iff.mp (Xi e1))
  have e:=h.inj J hb (h.suf _ uD hb).symm;grind
theorem Ord.mono(h:Ord n m p)(hk:m<=k):Ord n k p:=⟨h.perm,λi hi=>h.suf i J⟩
theorem Uu{i j k:Nat}(hj:j<=p.size):(kas_rev p i j).getD k 0=if i<=k/\k<j then p.getD (i+j-1-k) 0 else p.getD k 0:=by unfold kas_rev;rw[YC,getElem?_mirror_all hj,apply_ite λo:Option Nat=>o.getD 0,<-YC,<-YC]
theorem Ord.rev(h:Ord n m p)(hj:j<=m)(hm:m<=n):Ord n m (kas_rev p i j):=by have hs:=h.size;refine⟨(mirror_perm _ _ _ _).trans h.perm,λk hk hn=>?_⟩;rw[Uu J,if_neg J];exact h.suf k hk hn
def Asc(key:Nat->Int)(m:Nat)(p:Array Nat):Prop:=∀i j,i<j->j<m->Ahd key (p.getD i 0) (p.getD j 0)
theorem Asc.more(hm:1<=m)(h:Asc key m p)(h2:Ahd key (p.getD (m-1) 0) (p.getD m 0)):Asc key (m+1) p:=λi j Um hj=>by
 by_cases e:j=m
 .subst e;by_cases e2:i=j-1
  .rw[e2];exact h2
  .exact(h i (j-1) J uD).trans h2
 .exact h i j Um J
theorem Il:∀f m p,m+f=n->1<=m->Ord n m p->Asc key m p->∃k,Ul (λi j=>decide (key i<key j)) (kas_asc p f m)=k/\m<=k/\k<=n/\Asc key k p/\(k<n->key (p.getD k 0)<key (p.getD (k-1) 0))
 |0,m,p,hf,h1,ho,ha=>⟨m,Z,XJ _,J,ha,λh=>J⟩
 |f+1,m,p,hf,h1,ho,ha=>by
  show ∃k,Ul _ (if decide (key (p.getD m 0)<key (p.getD (m-1) 0))=true then KasT.ret m else kas_asc p f (m+1))=k/\_;by_cases hc:key (p.getD m 0)<key (p.getD (m-1) 0)
  .rw[if_pos (Yp hc)];exact⟨m,Z,XJ _,J,ha,λ_=>hc⟩
  .rw[if_neg λz=>hc (Yr z)];have e:=ho.suf m (XJ _) J
   have l:=ho.lt J (i:=m-1) J;obtain⟨k,e1,e2,e3,e4,e5⟩:=Il f (m+1) p J J (ho.mono J) (ha.more h1<|by unfold Ahd;rw[e]at hc ⊢;lia);exact⟨k,e1,J,e3,e4,e5⟩
structure Dsc(key:Nat->Int)(m g:Nat)(p:Array Nat):Prop where
 le:g+1<=m
 old:∀i j,i<j->j<m-(g+1)->Ahd key (p.getD j 0) (p.getD i 0)
 mid:∀i j,i<m-(g+1)->m-(g+1)<=j->j<m->key (p.getD j 0)<key (p.getD i 0)
 own:∀i j,m-(g+1)<=i->i<j->j<m->key (p.getD i 0)=key (p.getD j 0)/\p.getD i 0<p.getD j 0
def Fall(key:Nat->Int)(m:Nat)(p:Array Nat):Prop:=∀i j,i<j->j<m->Ahd key (p.getD j 0) (p.getD i 0)
theorem Dsc.turn(h:Dsc key m g p)(hs:m<=p.size):Fall key m (kas_rev p (m-(g+1)) m):=λi j Um hj=>by
 have hl:=h.le;rw[Uu hs,Uu hs];by_cases c1:m-(g+1)<=j
 .rw[if_pos ⟨c1,hj⟩];by_cases c2:m-(g+1)<=i
  .rw[if_pos ⟨c2,J⟩];exact .inr (h.own (m-(g+1)+m-1-j) (m-(g+1)+m-1-i) uD uD J)
  .rw[if_neg J];exact .inl (h.mid i _ J J J)
 .rw[if_neg J,if_neg J];exact h.old i j Um J
theorem Dsc.last(h:Dsc key m g p)(hs:m<=p.size):key ((kas_rev p (m-(g+1)) m).getD (m-1) 0)=key (p.getD (m-1) 0):=by
 have hl:=h.le;rw[Uu hs,if_pos uE];by_cases e:g=0
 .congr 2;grind
 .exact(h.own (m-(g+1)+m-1-(m-1)) (m-1) uD uD J).1
theorem Dsc.fall(h:Dsc key m 0 p):Fall key m p:=λi j Um hj=>by
 have hl:=h.le;by_cases e:j<m-(0+1)
 .exact h.old i j Um e
 .exact .inl (h.mid i j uE J hj)
theorem Fall.new(hm:1<=m)(h:Fall key m p)(hk:key (p.getD m 0)<key (p.getD (m-1) 0)):Dsc key (m+1) 0 p:=by
 refine⟨J,λi j Um hj=>h i j Um J,λi j hi h1 h2=>?_,λi j h1 h2 h3=>uE⟩;have e:j=m:=J
 subst e;by_cases c:i=j-1
 .rw[c];exact hk
 .have:=h i (j-1) J uD
  unfold Ahd at this;omega
theorem Fall.rev(h:Fall key m p)(hs:m<=p.size):Asc key m (kas_rev p 0 m):=λi j Um hj=>by rw[Uu hs,Uu hs,if_pos ⟨Yj _,J⟩,if_pos ⟨Yj _,hj⟩];exact h _ _ uD uD
theorem Asc.rev(h:Asc key m p)(hs:m<=p.size):Fall key m (kas_rev p 0 m):=λi j Um hj=>by rw[Uu hs,Uu hs,if_pos ⟨Yj _,hj⟩,if_pos ⟨Yj _,uD⟩];exact h _ _ uD uD
theorem wX:∀f m g p,m+f=n->Ord n m p->Dsc key m g p->∃p' m' g',Ul (λi j=>decide (key i<key j)) (kas_desc f p m g)=(p',m',g')/\m<=m'/\m'<=n/\Ord n m' p'/\Dsc key m' g' p'
 |0,m,g,p,hf,ho,hd=>⟨p,m,g,Z,XJ _,uD,ho,hd⟩
 |f+1,m,g,p,hf,ho,hd=>by
  have hl:=hd.le;have hs:=ho.size
  have em:=ho.suf m (XJ _) J;have ll:=ho.lt J (i:=m-1) J
  show ∃p' m' g',Ul _ (if decide (key (p.getD m 0)<key (p.getD (m-1) 0))=true then (if g>0 then kas_desc f (kas_rev p (m-(g+1)) m) (m+1) 0 else kas_desc f p (m+1) 0) else KasT.ask (p.getD (m-1) 0) (p.getD m 0) λd=>if d=true then .ret (p,m,g) else kas_desc f p (m+1) (g+1))=_/\_;by_cases hc:key (p.getD m 0)<key (p.getD (m-1) 0)
  .rw[if_pos (Yp hc)];by_cases hg:g>0
   .rw[if_pos hg];have hr:=ho.rev (i:=m-(g+1)) (XJ m) J
    have em2:=hr.suf m (XJ _) J;obtain⟨p',m',g',e1,e2,e3,e4,e5⟩:=wX f (m+1) 0 (kas_rev p (m-(g+1)) m) J (hr.mono J) ((hd.turn J).new J (by rw[hd.last uD,em2];rwa[em]at hc));exact⟨p',m',g',e1,J,e3,e4,e5⟩
   .rw[if_neg hg];obtain rfl:g=0:=J;obtain⟨p',m',g',e1,e2,e3,e4,e5⟩:=wX f (m+1) 0 p uD (ho.mono uD) (hd.fall.new J hc);exact⟨p',m',g',e1,J,e3,e4,e5⟩
  .rw[if_neg λz=>hc (Yr z)];show ∃p' m' g',Ul _ (if decide (key (p.getD (m-1) 0)<key (p.getD m 0))=true then KasT.ret (p,m,g) else kas_desc f p (m+1) (g+1))=_/\_
   by_cases Wc:key (p.getD (m-1) 0)<key (p.getD m 0)
   .rw[if_pos (Yp Wc)];exact⟨p,m,g,Z,XJ _,uD,ho,hd⟩
   .rw[if_neg λz=>Wc (Yr z)];have ek:key (p.getD (m-1) 0)=key (p.getD m 0):=J
    obtain⟨p',m',g',e1,e2,e3,e4,e5⟩:=wX f (m+1) (g+1) p uD (ho.mono uD) ⟨J,λi j h1 h2=>hd.old i j h1 J,λi j h1 h2 h3=>by
     by_cases c:j=m
     .rw[c,<-ek];exact hd.mid i (m-1) J uE J
     .exact hd.mid i j J J J,λi j h1 h2 h3=>by
     by_cases c:j=m
     .rw[c];by_cases c2:i=m-1
      .rw[c2,em];rw[em]at ek;exact⟨ek,ll⟩
      .have:=hd.own i (m-1) J J uD
       rw[em];rw[em]at ek;exact⟨this.1.trans ek,J⟩
     .exact hd.own i j J h2 uD⟩
    exact⟨p',m',g',e1,J,e3,e4,e5⟩
theorem bY(hm:1<=m)(hn:m<=n)(ho:Ord n m p)(hf:Fall key m p):∃k p',Ul (λi j=>decide (key i<key j)) (kas_tail3 m n p)=(k,p')/\1<=k/\k<=n/\Ord n k p'/\Asc key k p':=by
 have hs:=ho.size;unfold kas_tail3;rw[FN];have hr:=ho.rev (i:=0) (XJ m) hn
 obtain⟨k,e1,e2,e3,e4,_⟩:=Il (n-m) m (kas_rev p 0 m) uE hm hr (hf.rev J);rw[e1];exact⟨k,_,Z,J,e3,hr.mono e2,e4⟩
theorem bX(hm:1<=m)(hn:m<n)(ho:Ord n m p)(hf:Fall key m p)(hk:key (p.getD m 0)<key (p.getD (m-1) 0)):∃k p',Ul (λi j=>decide (key i<key j)) (kas_descPart m n p)=(k,p')/\1<=k/\k<=n/\Ord n k p'/\Asc key k p':=by
 unfold kas_descPart;rw[FN];obtain⟨p',m',g',e1,e2,e3,e4,e5⟩:=wX (n-(m+1)) (m+1) 0 p uE (ho.mono J) (hf.new hm hk);rw[e1];have hs:=e4.size
 show ∃k q,Ul _ (if g'>0 then kas_tail3 m' n (kas_rev p' (m'-(g'+1)) m') else kas_tail3 m' n p')=_/\_;by_cases hg:g'>0
 .rw[if_pos hg];exact bY J e3 (e4.rev (XJ _) e3) (e5.turn J)
 .rw[if_neg hg];obtain rfl:g'=0:=J;exact bY J e3 e4 e5.fall
theorem lN(hn:1<=n)(ho:Ord n 1 p):∃k p',Ul (λi j=>decide (key i<key j)) (kas_count n p)=(k,p')/\1<=k/\k<=n/\Ord n k p'/\Asc key k p':=by
 unfold kas_count;rw[FN];obtain⟨k,e1,e2,e3,e4,e5⟩:=Il (key:=key) (n-1) 1 p J (XJ _) ho λi j h1 h2=>J;rw[e1];have hs:=ho.size
 have hk:=ho.mono e2;by_cases c:k=n
 .rw[if_pos (by rw[c];exact JH n)];exact⟨k,p,Z,e2,e3,hk,e4⟩
 .rw[if_neg λz=>c (VE.mp z)];have Xn:k<n:=J
  have h5:=e5 Xn;by_cases c1:k>1
  .rw[if_pos c1];show ∃k' p',Ul _ (if decide (key (p.getD 0 0)<key (p.getD (k-1) 0))=true then KasT.ret (k,p) else kas_descPart k n (kas_rev p 0 k))=_/\_
   by_cases c2:key (p.getD 0 0)<key (p.getD (k-1) 0)
   .rw[if_pos (Yp c2)];exact⟨k,p,Z,e2,e3,hk,e4⟩
   .rw[if_neg λz=>c2 (Yr z)];have a0:=e4 0 (k-1) J J
    have eq:key (p.getD 0 0)=key (p.getD (k-1) 0):=by unfold Ahd at a0;grind
    have hr:=hk.rev (i:=0) (XJ k) J;refine bX e2 Xn hr (e4.rev J) ?_;rwa[Uu uD,Uu uD,if_neg J,if_pos J,show 0+k-1-(k-1)=0 by lia,eq]
  .rw[if_neg c1];obtain rfl:k=1:=J;exact bX (XJ _) Xn hk (λi j h1 h2=>J) h5
theorem lM(hk:Asc key k p):∀f l r,r-l<=f->l<=r->r<=k->(∀i,i<l->¬key (p.getD k 0)<key (p.getD i 0))->(∀i,r<=i->i<k->key (p.getD k 0)<key (p.getD i 0))->∃l',Ul (λi j=>decide (key i<key j)) (kas_place p k f l r)=l'/\l'<=k/\(∀i,i<l'->¬key (p.getD k 0)<key (p.getD i 0))/\(∀i,l'<=i->i<k->key (p.getD k 0)<key (p.getD i 0))
 |0,l,r,hf,h1,h2,ha,hb=>⟨l,Z,J,ha,λi hi=>hb i uE⟩
 |f+1,l,r,hf,h1,h2,ha,hb=>by
  have mono:∀i j,i<=j->j<k->key (p.getD i 0)<=key (p.getD j 0):=λi j Um hj=>by
   by_cases e:i=j
   .rw[e];exact Lw _
   .have:=hk i j J hj
    unfold Ahd at this;lia
  unfold kas_place;by_cases c:l >= r
  .rw[if_pos c];exact⟨l,Z,J,ha,λi hi=>hb i J⟩
  .rw[if_neg c];show ∃l',Ul _ (if decide (key (p.getD k 0)<key (p.getD ((l+r)/2) 0))=true then kas_place p k f l ((l+r)/2) else kas_place p k f ((l+r)/2+1) r)=l'/\_
   by_cases c2:key (p.getD k 0)<key (p.getD ((l+r)/2) 0)
   .rw[if_pos (Yp c2)];exact lM hk f l ((l+r)/2) uE J J ha λi hi nM=>by
     have:=mono ((l+r)/2) i hi nM
     omega
   .rw[if_neg λz=>c2 (Yr z)];exact lM hk f ((l+r)/2+1) r uE J J (λi hi=>by
     have:=mono i ((l+r)/2) J J
     omega) hb
theorem Ik{k d x:Nat}(hk:k<p.size)(hd:d<=k):(bubble p k d).getD x 0=if x=k-d then p.getD k 0 else if k-d<x/\x<=k then p.getD (x-1) 0 else p.getD x 0:=by rw[YC,getElem?_bubble hk d hd,apply_ite λo:Option Nat=>o.getD 0,apply_ite λo:Option Nat=>o.getD 0,<-YC,<-YC,<-YC]
theorem BN:∀f k p,k+f=n->Ord n k p->Asc key k p->∃p',Ul (λi j=>decide (key i<key j)) (kas_bin f p k)=p'/\Ord n n p'/\Asc key n p'
 |0,k,p,hf,ho,ha=>by obtain rfl:k=n:=J;exact⟨p,Z,ho,ha⟩
 |f+1,k,p,hf,ho,ha=>by
  have hs:=ho.size;have ek:=ho.suf k (XJ _) J
  unfold kas_bin;rw[FN];obtain⟨l,e1,e2,e3,e4⟩:=lM ha k 0 k J J (XJ _) (λi hi=>J) λi hi Wh=>uE;rw[e1];refine BN f (k+1) (bubble p k<|k-l) J ⟨(bubble_perm _ _ _).trans ho.perm,λi hi hn=>?_⟩ λi j Um hj=>?_
  .rw[Ik J uE,if_neg J,if_neg J];exact ho.suf i J hn
  .have low:∀x,x<k->p.getD x 0<k:=λx hx=>ho.lt J hx;rw[Ik J uE,Ik uD uD];have ekl:k-(k-l)=l:=uE
   rw[ekl];by_cases c1:i=l
   .rw[if_pos c1,if_neg J,if_pos J];exact .inl (e4 (j-1) uE uE)
   .rw[if_neg c1];by_cases c2:j=l
    .rw[if_pos c2,if_neg J];have a:=e3 i uE
     have b:=low i J;rw[ek]at a ⊢;unfold Ahd;lia
    .rw[if_neg c2];by_cases c3:l<i
     .rw[if_pos ⟨c3,J⟩,if_pos ⟨J,J⟩];exact ha _ _ uE uE
     .rw[if_neg J];by_cases c4:l<j
      .rw[if_pos ⟨c4,uD⟩];exact ha _ _ J uE
      .rw[if_neg J];exact ha _ _ Um J
theorem Mp(hn:1<=n):∃p,Ul (λi j=>decide (key i<key j)) (kas_sort n)=p/\p.toList.Perm (List.range n)/\p.toList.Pairwise (Ahd key):=by
 have fin:∀p,Ord n n p->Asc key n p->p.toList.Perm (List.range n)/\p.toList.Pairwise (Ahd key):=λp ho ha=>by
  have hs:=ho.size;refine⟨zd.mp ho.perm,Ka.mpr λi j hi hj Um=>?_⟩;rw[YE]at hi hj
  have:=ha i j Um J
  rwa[YC,YC,YH hi,YH hj]at this
 unfold kas_sort;rw[FN];obtain⟨k,p,e1,e2,e3,e4,e5⟩:=lN (key:=key) hn (p:=(List.range n).toArray) ⟨Array.Perm.refl _,λi _ hi=>by simp[Array.getD,hi]⟩;rw[e1];show ∃q,Ul _ (if k<n then kas_bin (n-max k 1) p (max k 1) else .ret p)=q/\_
 by_cases c:k<n
 .rw[if_pos c,Nat.max_eq_left e2];obtain⟨q,h1,h2,h3⟩:=BN (n-k) k p uE e4 e5;exact⟨q,h1,fin q h2 h3⟩
 .rw[if_neg c];obtain rfl:k=n:=J;exact⟨p,Z,fin p e4 e5⟩
end
end My
namespace L2
open PySem PySem.Spec PyProof.Rows
def OC(P:Program)(w:World)(K:Ad)(mg:Af)(base:Heap)(N:List Str)(qual:Str)(scope:Scope)(f:Addr)(cd:Value)(cl:List (Str×Addr))(A:Around)(outer:List Env)(s:Shared)(H:Hp):Cx where
 prog:=P
 w:=w
 K:=K
 mg:=mg
 base:=base
 A:=A.deeper (PySem.W.envX qual scope s.heap.objs.size f cd cl)
 N:=N
 s₀:=s
 H₀:=H
 env:=PySem.W.envX qual scope s.heap.objs.size f cd cl
 outer:=outer
 stack:=PySem.W.envX qual scope s.heap.objs.size f cd cl::outer
 ex:=[]
 calm:=true
 fn:=λ_=>false
 pn:=[]
 xe:=λ_ _=>False
structure LamScope(v x:Str)(sc:Scope):Prop where
 kind:sc.kind=.function
 co:sc.isCoroutine=false
 gen:sc.isGenerator=false
 nocell:∀y∈sc.names,y.2≠.cell
 par:sc.names.lookup v=some .local
 free:sc.names.lookup x=some .free
 only:∀y,sc.names.lookup y=some .free->y=x
 ne:v≠x
section
variable{P:Program}{w:World}{K:Ad}{mg:Af}{base:Heap}{qual name v x:Str}{scope:Scope}{f c c':Addr}{cd pm RA u ux:Value}{A:Around}{outer:List Env}{s:Shared}{H:Hp}{vv vx:V}{params:Arguments}{body:Expr}{k:Nat}{t:TE}{Q:VK}
theorem wW{c2:Addr}(h:List.lookup y [(x,c)]=some c2):y=x/\c2=c:=by
 unfold List.lookup at h;split at h
 .rename_i e;exact⟨VE.mp e,(Ye h).symm⟩
 .cases h
theorem lL(uz:LamScope v x scope)(hd:A.handled=none)(e0:Env0 P w K mg base A outer s H)(hc:s.heap.IsCell c (some ux))(rx:RelV vx ux)(lK:H c=none)(rv:RelV vv u){h1:Heap}{tk:Nat}
  (Rz:h1.Ns s.heap.objs.size λy=>[(v,u)].reverse.lookup y)(hk:∀b o,s.heap.get? b=some o->h1.get? b=some o):
  Inv (OC P w K mg base [v,x] qual scope f cd [(x,c)] A outer s H) [] [some vv,some vx] H {s with heap:=h1,toks:=tk}:=by
 have Jl:∀b:Addr,b∉(OC P w K mg base [v,x] qual scope f cd [(x,c)] A outer s H).ex:=λb z=>absurd (show b∈([]:List Addr) from z) S;have bW:h1.IsCell c (some ux):=by obtain⟨o,e,d⟩:=hc;exact⟨o,hk _ _ e,d⟩
 have lk:List.lookup x [(x,c)]=some c:=by unfold List.lookup;rw[JH]
 refine⟨⟨e0.mod,uz.kind,Z,Z,XJ _,λy z c2 h1 h2=>?_,λy hy=>?_,λy c2 z _=>(nomatch z),λ_=>hd,Around.frames_deeper e0.frames,.inr ⟨Z,Z⟩,λb z=>absurd z<|Jl b,e0.bs,e0.bsz,λb _ _=>Jl b,λb z=>absurd z<|Jl b,e0.funs,e0.frf⟩,
  rfl,e0.bare,Un.kept hk,⟨_,Rz,λi y v' h1 h2 h3=>?_⟩,λy c2 h=>?_,e0.hok.fresh<|XJ _,λy c2 h=>?_,λp hp=>absurd (show p∈([]:List (Addr×Obj)) from hp) S,e0.hok.kept hk,Z⟩
 .rw[(wW h1).1,(wW h2).1]
 .have hy:scope.names.lookup y=some .cell\/scope.names.lookup y=some .free:=hy;rcases hy with hy|hy
  .exact absurd Z (uz.nocell _<|JY hy)
  .rw[uz.only y hy];exact⟨c,lk⟩
 .match i,h1,h2 with
  |0,h1,h2=>
   obtain rfl:v=y:=Ye h1;obtain rfl:vv=v':=Ye (Ye h2);refine⟨u,rv,.inl ⟨uz.par,?_⟩⟩;show List.lookup v [(v,u)]=some u
   unfold List.lookup;rw[JH]
  |1,h1,h2=>
   obtain rfl:x=y:=Ye h1;obtain rfl:vx=v':=Ye (Ye h2);exact⟨ux,rx,.inr ⟨.inr uz.free,c,lk,bW⟩⟩
  |i+2,h1,h2=>cases h1
 .rw[(wW h).2];exact⟨_,bW⟩
 .rw[(wW h).2];exact lK
theorem BM(uz:LamScope v x scope)(hr:Room (k+1) A)(e0:Env0 P w K mg base A outer s H)(ho:s.heap.get? f=some (PySem.W.kla_obj name qual params body scope [(x,c)] pm c' RA))(SJ:s.heap.CodeRec (.ref c') qual)
  (Tb:bindArgs (PySem.W.kla_fn name qual params body scope [(x,c)] pm (.ref c') RA) ⟨[u],[]⟩=pure [(v,u)])(hc:s.heap.IsCell c (some ux))(rx:RelV vx ux)(lK:H c=none)(rv:RelV vv u)
  (hb:PE (OC P w K mg base [v,x] qual scope f (.ref c') [(x,c)] A outer s H) body t)(hq:t [some vv,some vx] H Q):
  codeAny (model P w) A (.call (.ref f) ⟨[u],[]⟩) (λr s'=>∃u',r=.ok (.ret u')/\CE outer P w H s Q u' s') s:=by
 have lim:s.heap.NoLimit:=e0.mod.nolimit.keeps λb o e=>(e0.bs b o e).1;refine PySem.W.kla_callFunE hr.depth ho Z uz.co uz.gen Z SJ ?_;rw[Tb];refine Ym (wpAny_newFunctionEnv uz.nocell (λy hy=>?_) (λh1 Rz bV=>⟨lim.fresh _ bV,?_⟩) uz.kind)
 .rw[XG.mp hy];exact uz.par
 have hk:∀b o,s.heap.get? b=some o->h1.get? b=some o:=λb o e=>bV.extBut b o (YB<|Yq e) (Xc _ e);have I:Inv (OC P w K mg base [v,x] qual scope f (.ref c') [(x,c)] A outer s H) [] [some vv,some vx] H {s with heap:=h1,toks:=s.toks+[(v,u)].length}:=lL uz hr.hd e0 hc rx lK rv Rz hk
 refine PySem.W.kla_codeExpr (SK (hb [] _ _ H _ I hq) (λu' s' h=>?_) λe s' h=>False.elim h);obtain⟨y,H',AP,r,q⟩:=h;exact⟨u',Z,y,H',AP.os,AP.bare,AP.base,AP.hok,r,q⟩
end
end L2
namespace My
open PySem PySem.W PyProof.Rows
def Asks{α:Type}(n:Nat)(R:α->Prop):KasT α->Prop
 | .ret a=>R a
 | .ask i j k=>i<n/\j<n/\∀b,Asks n R (k b)
theorem Asks.bind{α β:Type}{R:α->Prop}{uz:β->Prop}{f:α->KasT β}:∀{t:KasT α},Asks n R t->(∀a,R a->Asks n uz (f a))->Asks n uz (t.bind f)
 | .ret a,h,hf=>hf a h
 | .ask _ _ _,h,hf=>⟨h.1,h.2.1,λb=>Asks.bind (h.2.2 b) hf⟩
theorem goT_wp'{α:Type}{R:α->Prop}{c:Nat->Nat->Bool}{cmp:Nat->Nat->(Bool->Shared->Prop)->Shared->Prop}{AP:Shared->Prop}(h:∀i j C s,i<n->j<n->AP s->(∀s',AP s'->C (c i j) s')->cmp i j C s){Q:α->Shared->Prop}:∀t s,Asks n R t->AP s->(∀s',AP s'->Q (Ul c t) s')->t.kasWp cmp Q s
 | .ret _,s,_,hs,q=>q s hs
 | .ask i j k,s,ha,hs,q=>h i j _ s ha.1 ha.2.1 hs λs' ND=>goT_wp' h (k<|c i j) s' (ha.2.2 _) ND q
section
variable{n:Nat}
def Bd(n:Nat)(p:Array Nat):Prop:=p.Perm (List.range n).toArray
theorem Bd.lt(h:Bd n p)(hn:1<=n)(i:Nat):p.getD i 0<n:=by
 by_cases hi:i<p.size
 .have e1:=Mq (p:=p) hi;rw[<-YW]at e1;exact YK.mp ((zd.mp h).mem_iff.mp (Xi e1))
 .rw[YC,Fg J];exact hn
theorem Bd.rev(h:Bd n p)(i j:Nat):Bd n (kas_rev p i j):=(mirror_perm _ _ _ _).trans h
theorem lJ(hn:1<=n)(hp:Bd n p):∀f m:Nat,Asks n (λ_=>True) (kas_asc p f m)
 |0,m=>trivial
 |f+1,m=>⟨hp.lt hn _,hp.lt hn _,λb=>by
  cases b with
  |true=>exact trivial
  |false=>exact lJ hn hp f<|m+1⟩
theorem wV(hn:1<=n):∀f p m q,Bd n p->Asks n (λr=>Bd n r.1) (kas_desc f p m q)
 |0,p,m,q,hp=>hp
 |f+1,p,m,q,hp=>⟨hp.lt hn _,hp.lt hn _,λb=>by
  cases b with
  |true=>
   show Asks n _ (if q>0 then kas_desc f (kas_rev p (m-(q+1)) m) (m+1) 0 else kas_desc f p (m+1) 0);split
   .exact wV hn f _ _ _ (hp.rev _ _)
   .exact wV hn f _ _ _ hp
  |false=>
   refine⟨hp.lt hn _,hp.lt hn _,λd=>?_⟩;cases d with
   |true=>exact hp
   |false=>exact wV hn f _ _ _ hp⟩
theorem BK(hn:1<=n)(hp:Bd n p)(m r:Nat):Asks n (λz=>Bd n z.2) (kas_tail3 m r p):=
 (lJ hn (hp.rev _ _) _ _).bind λ_ _=>hp.rev _ _
theorem bU(hn:1<=n)(hp:Bd n p)(m r:Nat):Asks n (λz=>Bd n z.2) (kas_descPart m r p):=
 (wV hn _ p _ _ hp).bind λz hz=>by
  split
  .exact BK hn (hz.rev _ _) _ _
  .exact BK hn hz _ _
theorem ZT7(hn:1<=n)(hp:Bd n p)(r:Nat):Asks n (λz=>Bd n z.2) (kas_count r p):=
 (lJ hn hp _ _).bind λz _=>by
  split
  .exact hp
  .split
   .refine⟨hp.lt hn _,hp.lt hn _,λb=>?_⟩;cases b with
    |true=>exact hp
    |false=>exact bU hn (hp.rev _ _) _ _
   .exact bU hn hp _ _
theorem lI(hn:1<=n)(hp:Bd n p)(k:Nat):∀f l r:Nat,Asks n (λ_=>True) (kas_place p k f l r)
 |0,l,r=>trivial
 |f+1,l,r=>by
  unfold kas_place;split
  .exact trivial
  .refine⟨hp.lt hn _,hp.lt hn _,λb=>?_⟩;cases b with
   |true=>exact lI hn hp k f _ _
   |false=>exact lI hn hp k f _ _
theorem BJ(hn:1<=n):∀f p k,Bd n p->Asks n (λz=>Bd n z) (kas_bin f p k)
 |0,p,k,hp=>hp
 |f+1,p,k,hp=>(lI hn hp k _ _ _).bind λl _=>BJ hn f _ _ ((bubble_perm _ _ _).trans hp)
theorem QB(hn:1<=n):Asks n (λz=>Bd n z) (kas_sort n):=
 (ZT7 hn (p:=(List.range n).toArray) (Array.Perm.refl _) n).bind λz hz=>by
  split
  .exact BJ hn _ _ _ hz
  .exact hz
end
end My
namespace L2
open PySem PySem.Spec PyProof.Rows PySem.W
def Ry(key:Int->Int)(ns ms:Ac):Prop:=∃p:List Nat,p.Perm (List.range ns.length)/\p.Pairwise (My.Ahd λi=>key<|ns.getD i 0)/\ms=p.map λi=>ns.getD i 0
section
variable{X:Cx}{pins:List (Addr×Obj)}{σ:St}{H:Hp}{s:Shared}{b:Addr}{o:Obj}
theorem Inv.pin1(I:Inv X pins σ H s)(F:FpOk X pins H b)(e:s.heap.get? b=some o)(hd:∀v,o.data≠.cell v):Inv X (pins++[(b,o)]) σ H s:=I.pins_of λp hp=>by
 rcases XE.mp hp with hp|hp
 .exact I.pin p (Yi _ hp)
 .rw[XG.mp hp];exact⟨e,F.1,F.2.1,F.2.2.1,hd⟩
theorem FpOk.more{pl:List (Addr×Obj)}(F:FpOk X pins H b)(hn:∀p∈pl,p.1≠b):FpOk X (pins++pl) H b:=⟨F.1,F.2.1,F.2.2.1,F.2.2.2.1,F.2.2.2.2.1,λp hp=>by
 rcases XE.mp hp with hp|hp
 .exact F.2.2.2.2.2 p (Yd _ hp)
 .rcases XE.mp hp with hp|hp
  .exact F.2.2.2.2.2 p (Yi _ hp)
  .exact hn p hp⟩
theorem Inv.changed{h':Heap}{t':Nat}(I:Inv X pins σ H s)(F:FpOk X pins H b)(k:∀c o,c≠b->s.heap.get? c=some o->h'.get? c=some o):Inv X pins σ H {s with heap:=h',toks:=t'}:=
 I.turned k F.1 F.2.1 F.2.2.2.1 F.2.2.2.2.1 F.2.2.2.2.2
theorem Inv.adopt(I:Inv X pins σ H s)(hex:X.ex=[])(F:FpOk X pins H b)(new:ObjOk X.prog X.w (upd H b u) s.heap b u):Inv X pins σ (upd H b u) s:=by
 have f4:X.s₀.heap.objs.size<=b:=F.2.2.2.1.resolve_left (by rw[hex];simp);have hn:=F.1
 refine⟨I.ok,I.os,I.bare,⟨I.base.keep,I.base.slot,λc o e n hc=>?_,I.base.there,λc xs q=>?_,λc o w q=>?_,λc ps q=>?_⟩,I.loc,I.cell,?_,λx c e=>?_,λp hp=>?_,λc w e=>?_,I.len⟩
 .rw[Zb (YB<|Yw (Yq e) f4)];exact I.base.free c o e n hc
 .have:=I.base.tups c xs q
  rwa[Zb (Za this hn)]
 .have:=I.base.frzs c o w q
  rwa[Zb (Za this hn)]
 .obtain⟨m,this⟩:=I.base.tbls c ps q;exact⟨m,by rwa[Zb (Za this hn)]⟩
 .rw[Zb (XI F.2.1)];exact I.free
 .rw[Zb (F.2.2.2.2.1 x c e)];exact I.freeC x c e
 .have:=I.pin p hp
  exact⟨this.1,by rw[Zb (F.2.2.2.2.2 p hp)];exact this.2.1,this.2.2⟩
 .by_cases hb:c=b
  .subst hb;rw[XS]at e;cases e;exact new
  .rw[Zb hb]at e;exact(I.hok c w e).stay (λ_ _ _ q=>q) (λd q=>by rwa[Zb (Za q hn)]) λd xs q=>by rwa[Zb (Za q hn)]
end
section
variable{X:Cx}{pins:List (Addr×Obj)}{σ:St}{H:Hp}{s:Shared}{a kS:Addr}{A:Around}{E:Ae}{P:PySem.Fin->Shared->Prop}{kA:Array Value}{e e1:Nat}{ns:Ac}{vs:Ag}
theorem bT{st:SortSt}{out:Ag}(I:Inv X (pins++[(a,seqObj "list" #[] e1),(kS,seqObj "list" kA e)]) σ H s)(Fa:FpOk X pins H a)(Fk:FpOk X pins H kS)(Nr:a≠kS)(hz:kA.size<64)(NG:failedOf st=none)
  (Ij:(arrOf st).map (·.2)=out.toArray)(hlen:out.length<64)(h:∀s' m,Inv X pins σ H s'->s'.heap.get? a=some (seqObj "list" out.toArray m)->P (.done<|.ret .none) s'):
  wpAny (model X.prog X.w) A (ksk_tail a false e1 (.ref kS) st) P E s:=by
 have CZ:sizeLine=16777216:=TF;have pa:=(I.pin (a,seqObj "list" #[] e1) S).1
 have pk:=(I.pin (kS,seqObj "list" kA e) S).1;have I0:Inv X pins σ H s:=I.unpinned
 have lH:(s.heap.update kS<|Obj.mapSeq λ_=>(#[]:Array Value)).get? a=some (seqObj "list" #[] e1):=(YU _ _<|XI Nr).trans pa;obtain⟨m,hm⟩:∃m,((s.heap.update kS<|Obj.mapSeq λ_=>(#[]:Array Value)).update a (Obj.mapSeq λ_=>out.toArray)).get? a=some (seqObj "list" out.toArray m):=⟨_,yD lH λ_=>out.toArray⟩;unfold ksk_tail;dsimp only;rw[Ij];refine XU (Ss pk Z ?_ J<|Yj _);refine XU (GA ?_);refine XU (seqEpoch_at lH Z ?_);refine XU (Ss lH Z ?_ (Yj _)<|by simp;lia);rw[NG];simp only[bne_self_eq_false,Fc,Sr];refine Ym (h _ m ?_ hm);have I1:Inv X pins σ H {s with heap:=s.heap.update kS<|Obj.mapSeq λ_=>(#[]:Array Value),toks:=s.toks}:=I0.changed Fk λc o hc q=>(YU _ _<|XI hc).trans q
 exact I1.changed (t':=s.toks) Fa λc o hc q=>(YU _ _<|XI hc).trans q
theorem bS{vs:Ag}{ns:Ac}(h0:IntsAre vs ns):∀i,i<ns.length->∃t,vs[i]?=some (.int (ns.getD i 0) t):=by
 induction h0 with
 |nil=>exact λi h=>absurd h (Ws _)
 |cons n t r ih=>
  intro i h;cases i with
  |zero=>exact⟨t,Z⟩
  |succ i=>exact ih i (by rw[Yt]at h;lia)
end
def FL(c:Addr)(qual:Str):HO:=.ext λh=>h.CodeRec (.ref c) qual
def TabH(H:Hp)(Pt:Addr)(pos:Pos)(qual:Str):Prop:=∃ps:Array Value,H Pt=some (.tbl ps)/\TriplesOk ps.toList/\(codeAmong pos ps.toList=none\/∃c,codeAmong pos ps.toList=some (.ref c)/\H c=some (FL c qual))
def SameX(Pt:Addr)(H H':Hp):Prop:=∀b o,b≠Pt->H b=some o->H' b=some o
theorem bR{c:Addr}(h1 h2:Heap)(r:h1.CodeRec (.ref c) qual)(k:∀o,h1.get? c=some o->h2.get? c=some o):h2.CodeRec (.ref c) qual:=by obtain⟨c2,o,vs,t,e,g,r⟩:=r;cases e;exact⟨c,o,vs,t,Z,k _ g,r⟩
section
variable{X:Cx}{pins:List (Addr×Obj)}{σ:St}{H:Hp}{s:Shared}{c Pt cc:Addr}{x:Str}{params:Arguments}{body:Expr}{scope:Scope}{pos:Pos}{E:Ae}{Q:Ae}
theorem Inv.builtinsAt(I:Inv X pins σ H s)(hB:X.base.BuiltinsAt X.mg Pt):s.heap.BuiltinsAt X.mg Pt:=by obtain⟨bm,o,h1,h2,h3,h4,h5,h6⟩:=hB;exact⟨bm,o,h1,h2,h3,h4,I.bk _ _ h5,h6⟩
theorem BI(I:Inv X pins σ H s)(Uk:X.env.code=.ref c)(hC:codeHdIn X.K c Pt=true)(hB:X.base.BuiltinsAt X.mg Pt)(hT:TabH H Pt pos (X.env.qual++Str.ofString "<lambda>"))(Tu:closureFor scope X.env=pure [(x,cc)])(Ii:defaultsOf params X.env=([],[]))(BH:mainGlobals≠Pt)
  (h:∀f c' pm RA s' H',SameX Pt H H'->TabH H' Pt pos (X.env.qual++Str.ofString "<lambda>")->FpOk X pins H' f->Inv X pins σ H' s'->s'.heap.get? f=some (kla_obj (Str.ofString "<lambda>") (X.env.qual++Str.ofString "<lambda>") params body scope [(x,cc)] pm c' RA)->H' c'=some (FL c'<|X.env.qual++Str.ofString "<lambda>")->Q (.ref f) s'):
  wpAny (model X.prog X.w) X.A (eval (.Lambda params body scope pos) X.env) Q E s:=by
 obtain⟨ps,hP,BG,BF⟩:=hT;have Ut:s.heap.get? Pt=some (tabObj ps):=I.hok Pt _ hP
 have Rz:s.heap.Ns mainGlobals X.mg:=I.mod.glob.keeps I.bk;have bQ:=codeHd_of_K I.kIn hC
 refine kla_eval Ii ?_;rcases BF with bP|⟨c',hf,WI⟩
 .refine kla_makeFunction Tu I.ok.glob Rz Uk bQ Ut BG bP BH (I.builtinsAt hB) λc' RA h' tk hx Qe Xn Mo bO=>?_;have bN:Pt<s.heap.objs.size:=Yq Ut
  have Ih:H c'=none:=I.hok.fresh Qe;have bM:c'≠Pt:=Rn (Yw bN Qe)
  have keep:∀b o,b≠Pt->s.heap.get? b=some o->(h'.push<|kla_obj (Str.ofString "<lambda>") (X.env.qual++Str.ofString "<lambda>") params body scope [(x,cc)] ((X.mg "__name__").getD .none) c' RA).get? b=some o:=λb o hb e=>Xc _ (hx b o hb e);have sx:SameX Pt H (upd (upd H Pt<|.tbl<|ps++#[rawInt pos.line,rawInt pos.col,.ref c']) c'<|FL c'<|X.env.qual++Str.ofString "<lambda>"):=λb o hb e=>by rwa[Zb (Za e Ih),Zb hb]
  have tb:TabH (upd (upd H Pt<|.tbl<|ps++#[rawInt pos.line,rawInt pos.col,.ref c']) c'<|FL c'<|X.env.qual++Str.ofString "<lambda>") Pt pos (X.env.qual++Str.ofString "<lambda>"):=by have et:(ps++#[rawInt pos.line,rawInt pos.col,Value.ref c']).toList=ps.toList++[rawInt pos.line,rawInt pos.col,.ref c']:=S;refine⟨ps++#[rawInt pos.line,rawInt pos.col,.ref c'],by rw[Zb (XI bM),XS],by rw[et];exact TriplesOk_snoc _ _ _ _ BG,.inr ⟨c',by rw[et];exact codeAmong_snoc _ BG bP,XS⟩⟩
  have Ig:∀b,H b=none->b≠Pt:=λb n z=>by rw[z,hP]at n;cases n
  refine h h'.objs.size c' _ RA _ _ sx tb ?_ (I.un ⟨λb o e n _ _=>keep b o (Ig b n) e,λb o e n _ _=>⟨o.slots,keep b o (Ig b n) e⟩,λb o e n _=>?_,λb o e _=>?_,λb xs e=>?_,λb o u e=>?_,λb qs e=>?_⟩ λb u e=>?_) (Yk _ Z) XS
  .have lG:s.heap.objs.size<=h'.objs.size:=J;refine I.fpOk lG ?_;rw[Zb (Rn Xn),Zb (Rn<|Yw bN lG)];exact I.hok.fresh lG
  .rw[Zb (YB<|Yw (Yq e) Qe),Zb (Ig b n)];exact n
  .by_cases hb:b=Pt
   .rw[hb];exact⟨_,Xc _ bO⟩
   .exact⟨o,keep b o hb e⟩
  .exact sx b _ (λz=>by rw[z,hP]at e;cases e) e
  .exact sx b _ (λz=>by rw[z,hP]at e;cases e) e
  .by_cases hb:b=Pt
   .subst hb;rw[hP]at e;obtain rfl:ps=qs:=by cases e;rfl
    exact⟨#[rawInt pos.line,rawInt pos.col,.ref c'],by rw[Zb (XI bM),XS]⟩
   .exact⟨#[],by rw[sx b _ hb e];simp⟩
  .by_cases hb:b=c'
   .subst hb;rw[XS]at e;cases e;refine⟨bR _ _ Mo λo g=>Xc _ g,?_,bR⟩;obtain⟨c2,o,_,_,e2,g,_⟩:=Mo;cases e2;exact⟨o,Xc _ g⟩
   .rw[Zb hb]at e;by_cases Ta:b=Pt
    .subst Ta;rw[XS]at e;cases e;exact Xc _ bO
    .rw[Zb Ta]at e;refine(I.hok b u e).stay (λd o hd g=>keep d o (λz=>?_) g) (λd g=>sx d _ (λz=>by rw[z,hP]at g;cases g) g) λd xs g=>sx d _ (λz=>by rw[z,hP]at g;cases g) g;rcases hd with hd|hd
     .exact Ta (hd.symm.trans z)
     .rw[z,hP]at hd;cases hd
 .refine kla_makeFunctionHit Tu I.ok.glob Rz Uk bQ Ut BG hf (I.builtinsAt hB) λRA h' tk hk hsz=>?_;refine h h'.objs.size c' _ RA _ H (λ_ _ _ e=>e) ⟨ps,hP,BG,.inr ⟨c',hf,WI⟩⟩ (I.fpOk hsz<|I.hok.fresh hsz) (I.kept λb o e=>Xc _<|hk b o e) (Yk _ Z) WI
end
section
variable{Vz:Pos}{Pt:Addr}
theorem SqT.samex{K:Ad}{H H2:Hp}{a:Addr}{xs:List V}{qual:Str}(h:SqT K H a xs)(t:TabH H Pt Vz qual)(sx:SameX Pt H H2):SqT K H2 a xs:=by
 obtain⟨ps,hP,_⟩:=t;rcases h with (h|⟨o,h⟩)|h
 .exact .inl (.inl<|sx _ _ (λz=>by rw[z,hP]at h;cases h) h)
 .exact .inl (.inr ⟨o,sx _ _ (λz=>by rw[z,hP]at h;cases h) h⟩)
 .exact .inr h
end
def Ie(Pt:Addr)(H:Hp):Prop:=H Pt=some (.tbl #[])/\∀b,b=Pt\/H b=none\/∃o xs,H b=some (.frz o<|.lst xs)
theorem ZP8{P:Program}{w:World}{K:Ad}{mg mb:Af}{CX:Qn}{k:Nat}{fa a Pt c:Addr}{fd:FuncData}{x:Str}{sp:Sp}{s₁:Shared}{vs:Ag}{ns:Ac}
  (KX:K.In s₁.heap)(Rz:s₁.heap.Ns mainGlobals mg)(hb:s₁.heap.Ns builtinsNs mb)(pI:∀x:Str,x≠"__name__"->mb x=bootBuiltins x)(lF:s₁.heap.NoLimit)(hg:s₁.gens=#[])
  (hT:s₁.heap.get? Pt=some (tabObj #[]))(hC:codeHdIn K c Pt=true)(lE:K.lookup Pt=none)(hbm:∃bm ob,mg (Str.ofString "__builtins__")=some (.ref bm)/\bm≠builtinsNs/\s₁.heap.get? bm=some ob/\ob.cls=.type "module"/\ob.dict=some builtinsNs/\ob.data=.plain)
  (ha:s₁.heap.get? a=some {cls:=.type "list",data:=.seq vs.toArray})(hi:IntsAre vs ns)(hl:ns.length<=sizeLine)(hr:Room k callerA)
  (F:∀base:Heap,K.In base->base.Ns mainGlobals mg->base.BuiltinsAt mg Pt->FnOk P w K mg base CX k fa fd [x] sp)(Tb:∀s u,BindsTo s fd ⟨[u],[]⟩ [(x,u)])
  (UB:∀H:Hp,Ie Pt H->SqL K H a (ns.map V.int)->sp [.ref a] H (λv _=>v=.bl true) λ_ _ _=>False)
  (lD:∀H e s',CX [] H s₁ (λ_ _ _=>False) e s'->False):
  codeAny (model P w) callerA (.call (.ref fa) ⟨[.ref a],[]⟩) (λr s'=>r=.ok (.ret<|.bool true)/\OldK s₁.heap s'.heap/\s'.os=s₁.os/\AllBare s'.gens) s₁:=by
 have rv:=Za8 hi;have lC:=hi.length
 have bL:a≠Pt:=λz=>by rw[z,hT]at ha;cases ha
 have core:∀H:Hp,Ie Pt H->SqL K H a (ns.map V.int)->HOk P w H s₁.heap->(∀b,H b≠none->b=a\/b=Pt)->(H a≠none->K.lookup a=none)->
   codeAny (model P w) callerA (.call (.ref fa) ⟨[.ref a],[]⟩) (λr s'=>r=.ok (.ret<|.bool true)/\OldK s₁.heap s'.heap/\s'.os=s₁.os/\AllBare s'.gens) s₁:=by
  intro H hO hS hok hA hK;have base_of:∀{b:Addr}{o:Obj},s₁.heap.get? b=some o->H b=none->(UG s₁.heap H).get? b=some o:=λe n=>Zah e n
  have free:∀{b:Addr}{o:Obj},s₁.heap.get? b=some o->(∀XT n,o.data≠.seq XT n)->(∀vs,o.data≠.fields vs)->H b=none:=λ{b o} e d1 d2=>by
   cases q:H b with
   |none=>rfl
   |some u=>
    rcases hA b (by rw[q];simp) with e'|e'
    .subst e';rw[ha]at e;cases e;exact absurd Z (d1 _ _)
    .subst e';rw[hT]at e;cases e;exact absurd Z (d2 _)
  have wU:∀{b:Addr}{m:Af},s₁.heap.Ns b m->(UG s₁.heap H).Ns b m:=λ{b m} ⟨o,es,ep,e,d,r⟩=>⟨o,es,ep,base_of e (free e (λ_ _ z=>by rw[d]at z;cases z) λ_ z=>by rw[d]at z;cases z),d,r⟩;have bK:K.In (UG s₁.heap H):=λb o e=>base_of (KX b o e) (by
   cases q:H b with
   |none=>rfl
   |some u=>
    rcases hA b (by rw[q];simp) with e'|e'
    .subst e';rw[hK (by rw[q];simp)]at e;cases e
    .subst e';rw[lE]at e;cases e)
  have hM:Mod K mg (UG s₁.heap H):=⟨bK,wU Rz,⟨mb,wU hb,pI⟩,by obtain⟨mc,h1,h2⟩:=lF;exact⟨mc,wU h1,h2⟩⟩;have hB:(UG s₁.heap H).BuiltinsAt mg Pt:=by
   obtain⟨bm,ob,b1,b2,b3,b4,b5,b6⟩:=hbm;refine⟨bm,ob,b1,b2,λz=>?_,λz=>?_,base_of b3 (free b3 (λ_ _ z=>by rw[b6]at z;cases z) λ_ z=>by rw[b6]at z;cases z),b4,b5,b6⟩
   .obtain⟨o,es,ep,e,d,_⟩:=Rz;rw[z,e]at b3;cases b3;rw[d]at b6;cases b6
   .rw[z,hT]at b3;cases b3;cases b4
  have e0:Env0 P w K mg (UG s₁.heap H) callerA [] s₁ H:=⟨Z,hM,λb o e=>Zai e,Nat.le_of_eq<|ZZ8 _ _,trivial,λb hb=>absurd (show b∈([]:List Addr) from hb) S,hok,.of_eq hg⟩;refine Ly ((F _ bK (wU Rz) hB).run callerA [] s₁ H ⟨[.ref a],[]⟩ [.ref a] [.ref a] _ _ hr e0 (Tb s₁<|.ref a) (.cons Z .nil) (UB H hO hS)) λr s' h=>?_;cases r with
  |error e=>exact(lD H e s' h).elim
  |ok fl=>
   cases fl with
   |next=>exact False.elim h
   |brk=>exact False.elim h
   |cont=>exact False.elim h
   |ret u=>
    obtain⟨v,H',os,bare,un,BE,r',q⟩:=h;have q':v=.bl true:=q
    subst q';obtain rfl:u=Value.bool true:=r';obtain⟨more,eP⟩:=un.tbls Pt #[] hO.1;have bJ:s'.heap.get? Pt=some {cls:=.none,data:=.fields (#[]++more)}:=BE Pt _ eP
    have kept:∀b o,b≠Pt->s₁.heap.get? b=some o->s'.heap.get? b=some o:=λb o VN e=>by
     cases q:H b with
     |none=>exact un.keep b o e q (by intro z;exact absurd (show b∈([]:List Addr) from z) S) S
     |some u=>
      rcases hO.2 b with z|z|⟨ob,xs,z⟩
      .exact absurd z VN
      .rw[q]at z;cases z
      .have z2:=un.frzs b ob _ z;obtain⟨e1,_⟩:=hok b _ z;obtain⟨e2,_⟩:=BE b _ z2;rw[e]at e1;cases e1;exact e2
    refine⟨Z,⟨λb o e=>?_,λb o e=>?_⟩,os,bare⟩
    .by_cases VN:b=Pt
     .subst VN;rw[hT]at e;obtain rfl:=Ye e;obtain⟨oc,vsc,_,_,_,_,_,_,_,c1,c2,c3,c4,_⟩:=codeHd_of_K KX hC;exact .inr (.inl ⟨⟨c,oc,vsc,c1,c2,c3,c4⟩,Z,#[],more,Z,bJ⟩)
     .exact .inl (kept b o VN e)
    .by_cases VN:b=Pt
     .rw[VN];exact⟨_,bJ⟩
     .exact⟨o,kept b o VN e⟩
 cases hk:K.lookup a with
 |some o=>
  have e:=KX a o hk;rw[ha]at e;cases e;refine core (λb=>if b=Pt then some (.tbl #[]) else none) ⟨if_pos Z,λb=>?_⟩ (.inr ⟨_,vs.toArray,_,hk,Z,Z,Z,by rw[Yc,lC];exact hl,by simpa using rv⟩) (λb u z=>?_) (λb z=>?_) λz=>absurd (if_neg bL) z
  .by_cases VN:b=Pt
   .exact .inl VN
   .exact .inr (.inl<|if_neg VN)
  .by_cases VN:b=Pt
   .have z':=(if_pos VN).symm.trans z;cases z';subst VN;exact hT
   .have z':=(if_neg VN).symm.trans z;cases z'
  .by_cases VN:b=Pt
   .exact .inr VN
   .exact absurd (if_neg VN) z
 |none=>
  refine core (λb=>if b=Pt then some (.tbl #[]) else if b=a then some (.frz {cls:=.type "list",data:=.seq vs.toArray} (.lst<|ns.map V.int)) else none) ⟨if_pos Z,λb=>?_⟩ (.inl<|.inr ⟨{cls:=.type "list",data:=.seq vs.toArray},(if_neg bL).trans (if_pos Z)⟩) (λb u z=>?_) (λb z=>?_) λ_=>hk
  .by_cases VN:b=Pt
   .exact .inl VN
   .by_cases hb:b=a
    .exact .inr (.inr ⟨_,_,(if_neg VN).trans (if_pos hb)⟩)
    .exact .inr (.inl<|(if_neg VN).trans (if_neg hb))
  .by_cases VN:b=Pt
   .have z':=(if_pos VN).symm.trans z;cases z';subst VN;exact hT
   .by_cases hb:b=a
    .have z':=((if_neg VN).trans (if_pos hb)).symm.trans z;cases z';subst hb;exact⟨ha,by rw[Yb];exact hl,vs,_,rv,ha⟩
    .have z':=((if_neg VN).trans (if_neg hb)).symm.trans z;cases z'
  .by_cases VN:b=Pt
   .exact .inr VN
   .by_cases hb:b=a
    .exact .inl hb
    .exact absurd ((if_neg VN).trans (if_neg hb)) z
theorem OB{l:PySem.W.OpenLaw}{n k:Nat}{q:Program}{loose:List Str}{XP:Af->Heap->Prop}{YP:World->Heap->Prop}{d:DefRec}{K:Params->Ad}{CX:Qn}{sp:Ad->Sp}{x:Str}{c Pt:Addr}
  (hn:l.most=some n)(NJ:n<=sizeLine)(rX:d.params.defaults=[])(hr:Room k callerA)
  (hY:∀(w:World)(h:Heap),YP w h->(K w.params).In h/\h.get? Pt=some (tabObj #[]))(hC:∀w:World,codeHdIn (K w.params) c Pt=true)(lE:∀w:World,(K w.params).lookup Pt=none)
  (F:∀(w:World)(mg:Af)(fa:Addr)(h:Heap),(K w.params).In h->h.Ns mainGlobals mg->mg d.name=some (.ref fa)->
   ∃fd:FuncData,(∀(s:Shared)(u:Value),BindsTo s fd ⟨[u],[]⟩ [(x,u)])/\
    ∀base:Heap,(K w.params).In base->base.Ns mainGlobals mg->base.BuiltinsAt mg Pt->FnOk l.prog w (K w.params) mg base CX k fa fd [x] (sp<|K w.params))
  (UB:∀(w:World)(H:Hp)(a:Addr)(ns:Ac),ns.length<=n->Ie Pt H->SqL (K w.params) H a (ns.map V.int)->sp (K w.params) [.ref a] H (λv _=>v=.bl true) λ_ _ _=>False)
  (lD:∀(H:Hp)(s:Shared)(e:Value)(s':Shared),CX [] H s (λ_ _ _=>False) e s'->False):
  PySem.W.WalkO q loose XP YP l.row.toRowW d [] (λf vs=>PySem.call f vs):=by refine Att.Tj hn rX λw s₀ s₁ mg mb fa o pm cd doc a vs ns G Y ho hd SJ DF Jf hints hlen hg=>?_;obtain⟨KX,hT⟩:=hY w _ Y;obtain⟨fd,hb,hF⟩:=F w mg fa _ KX G.T.g DF;exact ZP8 KX G.T.g G.T.b G.T.builtins G.T.nolimit hg hT (hC w) (lE w) G.T.bmain Jf hints (Yv hlen NJ) hr hF hb (λH hO hS=>UB w H a ns hlen hO hS) λH e s'=>lD H s₁ e s'
def Qc(K:Ad)(mg:Af)(base:Heap)(fd:FuncData)(Pt:Addr):Prop:=∃c,fd.code=.ref c/\codeHdIn K c Pt=true/\base.BuiltinsAt mg Pt/\mainGlobals≠Pt
theorem LamScope.of(h1:sc.kind=.function)(h2:sc.isCoroutine=false)(h3:sc.isGenerator=false)(h4:sc.names=[(v,.local),(x,.free)]\/sc.names=[(x,.free),(v,.local)])(hn:v≠x):LamScope v x sc:=by
 have b1:(v == x)=false:=vh hn;have b2:(x == v)=false:=vh (XI hn)
 refine⟨h1,h2,h3,λy hy=>?_,?_,?_,λy hy=>?_,hn⟩
 .have l1:NameKind.local≠NameKind.cell:=uB;have l2:NameKind.free≠NameKind.cell:=uB
  rcases h4 with e|e<;>rw[e]at hy<;>rcases Yg.mp hy with rfl|hy
  .exact l1
  .rw[XG.mp hy];exact l2
  .exact l2
  .rw[XG.mp hy];exact l1
 .rcases h4 with e|e<;>rw[e]<;>simp[List.lookup,b1,b2]
 .rcases h4 with e|e<;>rw[e]<;>simp[List.lookup,b1,b2]
 .rcases h4 with e|e<;>rw[e]at hy<;>simp only[List.lookup]at hy
  .split at hy
   .cases hy
   .split at hy
    .rename_i q;exact VE.mp q
    .cases hy
  .split at hy
   .rename_i q;exact VE.mp q
   .split at hy
    .cases hy
    .cases hy
section
variable{P:Program}{w:World}{K:Ad}{mg:Af}{base:Heap}
theorem Fun.okL{x qual:Str}{st:Stmt}{f c:Addr}{fd:FuncData}{N ps:List Str}{k:Nat}{sp:Sp}(F:Fun K x qual st f fd)(hc:fd.code=.ref c)(uz:FnScope N ps (Xt st))(len:∀vs H Q E,sp vs H Q E->vs.length=ps.length)
  (VV:∀A outer s H vs Q E,Room k (A.deeper<|envOfC qual (Xt st) s.heap.objs.size f<|.ref c)->sp vs H Q E->
   ∃t,PSs (Ua Xo P w K mg base N qual (Xt st) f (.ref c) A outer s H E).nox (QU st) t/\t {nx:=λ_ H'=>Q .non H',rt:=Q} (start N vs) H):FnOk P w K mg base Xo (k+1) f fd ps sp:=by obtain⟨oc,od,kV,doc,pm,an,XC,ct,Tz,rfl,lk,SJ⟩:=F.ex;obtain rfl:XC=.ref c:=hc;refine Lj lk SJ uz len λA outer s H vs Q E hr UB=>?_;obtain⟨t,h,q⟩:=VV A outer s H vs Q E hr UB;exact⟨t,h.nox,q⟩
end
end L2
namespace My
open PySem L2
def pl(ls T U:Ac):Prop:=HT.ltP (Ce ls T,T) (Ce ls U,U)=true
def OrdL(ls:Ac)(m:Nat)(os:Ac):Prop:=os.Perm (Wi m)/\os.Pairwise λx y=>Io ls x<Io ls y\/(Io ls x=Io ls y/\x<y)
theorem lB(g:Zz n ps)(hT:Zf n ps T)(hW:Zf n ps W)(h:∀z∈T,z∈W):T=W:=
 CK (MA hT) (MA hW) λz=>(mi g hT hW h).mem_iff
structure Ent where
 T:Ac
 I:Ac
 O:Ac
deriving DecidableEq
end My
namespace L2
open PySem PySem.Spec PyProof.Rows PySem.W My
theorem SameX.same(s:Same H H'):SameX Pt H H':=λb o _ e=>s b o e
theorem SameX.trans{Pt:Addr}{H H1 H2:Hp}(a:SameX Pt H H1)(b:SameX Pt H1 H2):SameX Pt H H2:=λc o hc e=>b c o hc (a c o hc e)
theorem TabH.same(t:TabH H Pt pos qual)(s:Same H H'):TabH H' Pt pos qual:=by
 obtain⟨ps,h1,h2,h3⟩:=t;refine⟨ps,s _ _ h1,h2,?_⟩;rcases h3 with h|⟨c,h,h'⟩
 .exact .inl h
 .exact .inr ⟨c,h,s _ _ h'⟩
theorem TabH.ne{Pt a:Addr}{o:HO}(t:TabH H Pt pos qual)(h:H a=some o)(hn:∀ps,o≠.tbl ps):a≠Pt:=λe=>by obtain⟨ps,h1,_⟩:=t;rw[e,h1]at h;exact hn ps (Ye h).symm
theorem TabH.put{Pt r:Addr}{zs:List V}{u:List V}(t:TabH H Pt pos qual)(hr:H r=some (.lst zs)):TabH (upd H r (.lst u)) Pt pos qual:=by
 obtain⟨ps,h1,h2,h3⟩:=t;refine⟨ps,by rw[Zb (MW h1 hr S)];exact h1,h2,?_⟩;rcases h3 with h|⟨c,h,h'⟩
 .exact .inl h
 .exact .inr ⟨c,h,by rwa[Zb (MW h' hr<|by unfold FL;simp)]⟩
end L2
namespace My
open PySem L2
theorem SqK.samex(h:SqK kd K H a xs)(t:TabH H Pt pos qual)(sx:SameX Pt H H2):SqK kd K H2 a xs:=by
 cases kd with
 |true=>exact SqT.samex (show SqT K H a xs from h) t sx
 |false=>
  rcases(show SqL K H a xs from h) with (h|⟨o,h⟩)|h
  .exact .inl (.inl<|sx _ _ (t.ne h S) h)
  .exact .inl (.inr ⟨o,sx _ _ (t.ne h S) h⟩)
  .exact .inr h
theorem WebAt.samex(h:WebAt C H w n ps)(t:TabH H Pt pos qual)(sx:SameX Pt H H2):WebAt C H2 w n ps:=by obtain⟨dx,tl,xs,h1,h2,h3⟩:=h;refine⟨dx,tl,xs,sx _ _ (t.ne h1 S) h1,sx _ _ (t.ne h2 S) h2,h3.1,λi p hp=>?_⟩;obtain⟨x,hx,q,e,hq⟩:=h3.2 i p hp;exact⟨x,hx,q,e,sx _ _ (t.ne hq S) hq⟩
end My
namespace My
theorem un1{α:Type}{P:List α->Prop}(h:∀a,P [a])(l:List α)(e:l.length=1):P l:=by obtain⟨a,rfl⟩:=CJ e;exact h a
theorem rQ{α:Type}{P:List α->Prop}(h:∀a b,P [a,b])(l:List α)(e:l.length=2):P l:=by obtain⟨a,b,rfl⟩:=CI e;exact h a b
theorem bI{α:Type}{P:List α->Prop}(h:∀a b c,P [a,b,c])(l:List α)(e:l.length=3):P l:=by obtain⟨a,b,c,rfl⟩:=CH e;exact h a b c
theorem un4{α:Type}{P:List α->Prop}(h:∀a b c d,P [a,b,c,d])(l:List α)(e:l.length=4):P l:=by obtain⟨a,b,c,d,rfl⟩:=CG e;exact h a b c d
theorem un5{α:Type}{P:List α->Prop}(h:∀a b c d e,P [a,b,c,d,e])(l:List α)(e:l.length=5):P l:=by
 cases l with
 |nil=>cases e
 |cons x r=>
  obtain⟨a,b,c,d,rfl⟩:=CG (Nc e);exact h x a b c d
end My
namespace My
open PySem L2
theorem BD(h:TC n ps c):c=0↔∀T,¬Zf n ps T:=by
 obtain⟨L,a1,a2,a3⟩:=h;constructor
 .intro e T hT;rw[e]at a3
  have:=(a2 T).mpr hT
  rw[YY.mp a3]at this;cases this
 .intro e;rw[<-a3,YY];exact Fm.mpr λT hT=>e T ((a2 T).mp hT)
end My
namespace L2
open PySem PySem.Spec PyProof.Rows PySem.W
theorem bH:∀bs:List Bool,(bs.map Value.bool).mapM firstOfTuple'=(pure ((bs.map Value.bool).map λ_=>none):Sem _)
 |[]=>S
 |b::bs=>by rw[UI,List.mapM_cons,bH bs];show(pure none >>= λb=>pure _ >>= λbs=>pure<|b::bs)=_;simp
theorem bG:∀bs:List Bool,(bs.map Value.bool).mapM typeOf=(pure ((bs.map Value.bool).map λ_=>Value.type "bool"):Sem _)
 |[]=>S
 |b::bs=>by rw[UI,List.mapM_cons,bG bs];show(pure (Value.type "bool") >>= λb=>pure _ >>= λbs=>pure<|b::bs)=_;simp
theorem Zn7{ns:Ac}{key:Int->Bool}(hk:kA.toList=ns.map λz=>Value.bool (key z))(h2:2<=ns.length):keyKind' kA=pure oneType':=by
 have e:kA=((ns.map key).map Value.bool).toArray:=by rw[<-Array.toArray_toList (xs:=kA),hk,LB];rfl
 rw[e];obtain⟨b1,b2,bs,eb⟩:∃b1 b2 bs,ns.map key=b1::b2::bs:=by
  match ns,h2 with
  |x::y::l,_=>exact⟨_,_,_,Z⟩
 rw[eb,keyKind'_eq,List.mapM_toArray,bH];simp only[map_pure,pure_bind];rw[if_neg S,if_neg S];rw[oneTypeOnly'_eq,List.mapM_toArray,bG];simp only[map_pure,pure_bind];have Wg:((List.map (λ_=>Value.type "bool")<|List.map Value.bool<|b1::b2::bs).toArray.all λx=>x == Value.type "bool")=true:=by simp only[List.all_toArray,List.all_map,Ro];intro _ _;rfl
 have h0:(List.map (λ_=>Value.type "bool")<|List.map Value.bool<|b1::b2::bs).toArray[0]?=some (Value.type "bool"):=S;rw[h0];simp only[Wg,NL,pure_bind,Option.isSome_some]
theorem BC{E:Ae}{s:Shared}{Q:Bool->Shared->Prop}(h:Q (decide (b2i p<b2i q)) s):wpAny (model prog w) A (keyLt' oneType' (.bool p) (.bool q)) Q E s:=by rw[keyLt'_oneType,oneLt'_eq];simp only[NL];refine XU (wpAny_cRoomFor_byValue Z ?_);refine XU (wpAny_callSpecialIfBound?_slot (typeIs_bool' s p) F.slot_bool_lt<|call_gives F.slot_bool_lt (typeIs_bool' s p) F.entry_int_lt (F.args_int_lt_2 _ _) (gives_int_lt_bools p q) ?_);exact PK h
section
variable{X:Cx}{pins:List (Addr×Obj)}{σ:St}{H:Hp}{s:Shared}{a kS:Addr}{A:Around}{E:Ae}{P:PySem.Fin->Shared->Prop}{kA:Array Value}{e e1:Nat}{f:Value}{key:Int->Bool}{ns:Ac}{vs:Ag}
theorem lz(hv:IntsAre vs ns)(hk:kA.toList=ns.map λz=>Value.bool (key z))(hi:i<ns.length):∃u,kas_item (kA.zip vs.toArray) i=(.bool (key (ns.getD i 0)),.int (ns.getD i 0) u):=by
 obtain⟨u,hu⟩:=bS hv i hi;have ht:kA.toList[i]?=some (Value.bool<|key<|ns.getD i 0):=by rw[hk,Yl,Ya,Xw hi];rfl
 refine⟨u,?_⟩;unfold kas_item;rw[YC,<-YW,ksk_zip,(List.getElem?_zip_eq_some (z:=(Value.bool<|key<|ns.getD i 0,Value.int (ns.getD i 0) u))).mpr ⟨ht,hu⟩];rfl
theorem bF(hv:IntsAre vs ns)(hk:kA.toList=ns.map λz=>Value.bool (key z)):∀l:List Nat,(∀i∈l,i<ns.length)->IntsAre (l.map λi=>(kas_item (kA.zip vs.toArray) i).2) (l.map λi=>ns.getD i 0)
 |[],_=>.nil
 |i::l,h=>by
  obtain⟨u,e⟩:=lz hv hk (h i Xd);have r:=bF hv hk l λj hj=>h j (Yf _ hj)
  rw[UI,UI,e];exact .cons _ u r
theorem ly(I:Inv X (pins++[(a,seqObj "list" #[] e1),(kS,seqObj "list" kA e)]) σ H s)(Fa:FpOk X pins H a)(Fk:FpOk X pins H kS)(Nr:a≠kS)(hv:IntsAre vs ns)(Qi:ns.length<64)(hk:kA.toList=ns.map λz=>Value.bool (key z))
  (h:∀s' m out ms,Inv X pins σ H s'->s'.heap.get? a=some (seqObj "list" out m)->IntsAre out.toList ms->Ry (λz=>b2i<|key z) ns ms->P (.done<|.ret .none) s'):
  wpAny (model X.prog X.w) A (ksk_end a false vs.toArray e1 (.ref kS) kA) P E s:=by
 have BB:=hv.length;have hkl:=Xy List.length hk
 rw[YE,Yb]at hkl;have hzs:(kA.zip vs.toArray).size=ns.length:=by rw[Array.size_zip,show vs.toArray.size=vs.length from Yc];grind
 unfold ksk_end;dsimp only;rw[if_neg uB];by_cases h2:vs.toArray.size<2
 .rw[if_pos h2,if_pos h2];rw[Yc]at h2;refine XU (Ym ?_);rw[StateT.run_pure];refine XU (Ym ?_);dsimp only;refine bT (out:=vs) I Fa Fk Nr J Z ?_ uE λs' m AP e=>h s' m vs.toArray ns AP e (by simpa using hv) ?_
  .show(if false=true then (kA.zip vs.toArray).reverse else kA.zip vs.toArray).map (·.2)=vs.toArray;rw[if_neg uB,Array.map_snd_zip (by rw[Yc];lia)]
  .refine⟨List.range ns.length,List.Perm.refl _,?_,?_⟩
   .match ns.length,(show ns.length<2 by lia) with
    |0,_=>exact List.Pairwise.nil
    |1,_=>exact NR _ _
   .match ns,(show ns.length<2 by omega) with
    |[],_=>rfl
    |[x],_=>rfl
 .rw[if_neg h2,if_neg h2];rw[Yc]at h2;rw[Zn7 hk J];refine XU (Ym ?_);rw[if_neg uB];obtain⟨p,UO,VO,Nq⟩:=My.Mp (n:=ns.length) (key:=λi=>b2i<|key<|ns.getD i 0) J;have runs:=kas_runs (prog:=X.prog) (w:=X.w) (A:=A) (E:=E) (κ:=oneType') (it:=kA.zip vs.toArray) (n:=ns.length) (s:=s) (Q:=λ_ st s'=>s'=s/\failedOf st=none/\arrOf st=p.map (kas_item<|kA.zip vs.toArray))
   (G:=λq s'=>s'=s/\q=p) uD Qi (λq st s' _ e2 e3 e4=>⟨e4.1,e3,by rw[e2,e4.2]⟩)
   (My.goT_wp' (c:=λi j=>decide<|b2i (key<|ns.getD i 0)<b2i (key<|ns.getD j 0)) (AP:=λs'=>s'=s) (λi j C s' hi hj hs hC=>by obtain⟨u,e⟩:=lz hv hk hi;obtain⟨u',e'⟩:=lz hv hk hj;unfold kas_cmp;rw[e,e'];exact BC<|hC s' hs) _ s (My.QB uD) Z λs' hs=>⟨hs,UO⟩)
  unfold kasC kas_st at runs;rw[<-hzs,kas_range]at runs;refine XU (SK runs ?_ λ_ _ z=>z);rintro⟨⟨⟩,st⟩ s' ⟨rfl,hf,ha⟩;dsimp only;have hb:∀i∈p.toList,i<ns.length:=λi hi=>YK.mp (VO.mem_iff.mp hi)
  have UL:p.toList.length=ns.length:=by rw[VO.length_eq,PL]
  refine bT (out:=p.toList.map λi=>(kas_item (kA.zip vs.toArray) i).2) I Fa Fk Nr J hf ?_ (by rw[Yb];lia) λSG m AP e=>h SG m _ _ AP e (by simpa using bF hv hk p.toList hb) ⟨p.toList,VO,Nq,Z⟩;have ha:arrOf st=p.map (kas_item<|kA.zip vs.toArray):=ha
  rw[ha,Array.map_map];exact Array.toList_inj.mp S
theorem ZR8(I:Inv X (pins++[(a,seqObj "list" #[] e1),(kS,seqObj "list" #[] 0)]) σ H s)(Fa:FpOk X pins H a)(Fk:FpOk X pins H kS)(Nr:a≠kS)(hv:IntsAre vs ns)(Qi:ns.length<64)
  (turn:∀pl z t s',z∈ns->Inv X (pins++pl) σ H s'->wpAny (model X.prog X.w) A (call f [.int z t]) (λv SG=>v=.bool (key z)/\Inv X (pins++pl) σ H SG) (λ_ _=>False) s')
  (h:∀s' m out ms,Inv X pins σ H s'->s'.heap.get? a=some (seqObj "list" out m)->IntsAre out.toList ms->Ry (λz=>b2i<|key z) ns ms->P (.done<|.ret .none) s'):
  wpAny (model X.prog X.w) A (ksk_rest a f false vs.toArray e1<|.ref kS) P E s:=by
 have CZ:sizeLine=16777216:=TF;have BB:=hv.length
 unfold ksk_rest;refine XU (Gz ?_);rw[<-Array.forIn_toList];simp only[List.toList_toArray];refine XU (ksk_fold (λi s'=>∃kA e,Inv X (pins++[(a,seqObj "list" #[] e1),(kS,seqObj "list" kA e)]) σ H s'/\kA.toList=(ns.take i).map λz=>Value.bool<|key z) vs 0 s ⟨#[],0,I,Z⟩ ?step ?done)
 case step=>
  rintro j x s' hx ⟨kA,e,AP,hk⟩;rw[LC]at hk ⊢;have hj:j<ns.length:=by rw[<-BB];exact(Xr.mp hx).1
  obtain⟨t,ht⟩:=bS hv j hj;rw[hx]at ht;obtain rfl:=Ye ht;have hz:kA.size<=j:=by have h1:=Xy List.length hk;rw[YE,Yb,Yn]at h1;lia
  have eg:ns.getD j 0=ns[j]:=by rw[Ya,Xw hj];rfl
  have hmem:ns.getD j 0∈ns:=by rw[eg];exact Ni hj
  refine XU (LD<|SK (turn _ _ t s' hmem AP) (λv SG he=>?_) λ_ _ hF=>hF.elim);obtain⟨rfl,J2⟩:=he;dsimp only;have pk:=(J2.pin (kS,seqObj "list" kA e) S).1
  obtain⟨c2,Wc⟩:∃c2,(SG.heap.update kS (Obj.mapSeq (·.push (.bool<|key<|ns.getD j 0)))).get? kS=some (seqObj "list" (kA.push<|.bool<|key<|ns.getD j 0) c2):=⟨_,yD pk (·.push (.bool<|key<|ns.getD j 0))⟩;refine XU (Ss pk Z ?_ J<|by rw[Array.size_push];lia);refine Ym ⟨Z,kA.push<|.bool<|key<|ns.getD j 0,c2,?_,?_⟩
  .have J3:Inv X (pins++[(a,seqObj "list" #[] e1)]) σ H SG:=J2.pins_of λp hp=>J2.pin p (Yi _ (by
    rcases XE.mp hp with hp|hp
    .exact Yd _ hp
    .exact Yi _<|by rw[XG.mp hp];exact Xd))
   have bE:FpOk X (pins++[(a,seqObj "list" #[] e1)]) H kS:=Fk.more λp hp=>by rw[XG.mp hp];exact Nr
   have J4:=(J3.changed (t':=SG.toks) bE λc o hc q=>(YU SG.heap (Obj.mapSeq (·.push (.bool<|key<|ns.getD j 0)))<|XI hc).trans q).pin1 bE Wc λv z=>by cases z
   rwa[Wd]at J4
  .have ek:((ns.take<|j+1).map λz=>Value.bool<|key z)=((ns.take j).map λz=>Value.bool<|key z)++[Value.bool (key<|ns.getD j 0)]:=by rw[List.take_add_one,Xw hj,YG,eg];rfl
   rw[vj,ek,hk]
 case done=>
  rintro s' ⟨kA,e,AP,hk⟩;rw[LC,BB,YD]at hk;have pk:=(AP.pin (kS,seqObj "list" kA e) S).1
  refine XU (listItems_at pk Z ?_);exact ly AP Fa Fk Nr hv Qi hk h
theorem ZQ8(I:Inv X pins σ H s)(Fa:FpOk X pins H a)(ho:s.heap.get? a=some (seqObj "list" vs.toArray n))(hv:IntsAre vs ns)(Qi:ns.length<64)
  (turn:∀pl z t s',z∈ns->Inv X (pins++pl) σ H s'->wpAny (model X.prog X.w) A (call f [.int z t]) (λv SG=>v=.bool (key z)/\Inv X (pins++pl) σ H SG) (λ_ _=>False) s')
  (h:∀s' m out ms,Inv X pins σ H s'->s'.heap.get? a=some (seqObj "list" out m)->IntsAre out.toList ms->Ry (λz=>b2i<|key z) ns ms->P (.done<|.ret .none) s'):
  wpAny (model X.prog X.w) A (ksk_tree a f false) P E s:=by
 have CZ:sizeLine=16777216:=TF;have BB:=hv.length
 obtain⟨e1,bD⟩:∃e1,(s.heap.update a<|Obj.mapSeq λ_=>(#[]:Array Value)).get? a=some (seqObj "list" #[] e1):=⟨_,yD ho λ_=>#[]⟩;have I1:Inv X pins σ H {s with heap:=s.heap.update a<|Obj.mapSeq λ_=>(#[]:Array Value),toks:=s.toks}:=I.changed Fa λc o hc q=>(YU _ _<|XI hc).trans q
 have I2:Inv X pins σ H {s with heap:=(s.heap.update a<|Obj.mapSeq λ_=>(#[]:Array Value)).push (seqObj "tuple" vs.toArray 0),toks:=s.toks}:=I1.kept λc o q=>Xc _ q;have UK:((s.heap.update a<|Obj.mapSeq λ_=>(#[]:Array Value)).push (seqObj "tuple" vs.toArray 0)).get? a=some (seqObj "list" #[] e1):=Xc _ bD
 unfold ksk_tree;refine XU (listItems_at ho Z ?_);refine XU (Ss ho Z ?_ (by rw[Yc];lia)<|Yj _);refine XU (seqEpoch_at bD Z ?_);refine XU (wpAny_newTuple ?_<|by show vs.length<=_;omega);refine XU (JP ?_<|Yj _);refine RN ?_;have Fk:FpOk X pins H ((s.heap.update a<|Obj.mapSeq λ_=>(#[]:Array Value)).push (seqObj "tuple" vs.toArray 0)).objs.size:=I2.fpOk (XJ _) (I2.hok.fresh<|XJ _)
 have Nr:a≠((s.heap.update a<|Obj.mapSeq λ_=>(#[]:Array Value)).push (seqObj "tuple" vs.toArray 0)).objs.size:=YB (Yq UK);have I3:Inv X pins σ H {s with heap:=((s.heap.update a<|Obj.mapSeq λ_=>(#[]:Array Value)).push (seqObj "tuple" vs.toArray 0)).push (seqObj "list" #[] 0),toks:=s.toks}:=I2.kept λc o q=>Xc _ q
 have I4:=(I3.pin1 Fa (Xc _ UK) λv z=>by cases z).pin1 (Fk.more (pl:=[(a,seqObj "list" #[] e1)]) λp hp=>by rw[XG.mp hp];exact Nr) (Yk _ Z) λv z=>by cases z
 rw[Wd]at I4;exact ZR8 I4 Fa Fk Nr hv Qi turn h
theorem ZX5{tp q:Addr}{Q:Ae}(I:Inv X pins σ H s)(ht:s.heap.IsList tp vs.toArray)(hv:IntsAre vs ns)(Qi:ns.length<64)
  (turn:∀pl z t s',z∈ns->Inv X (pins++pl) σ H s'->wpAny (model X.prog X.w) A.in1.in1 (call (.ref q) [.int z t]) (λv SG=>v=.bool (key z)/\Inv X (pins++pl) σ H SG) (λ_ _=>False) s')
  (h:∀s' a m out ms,FpOk X pins H a->Inv X pins σ H s'->s'.heap.get? a=some (seqObj "list" out m)->IntsAre out.toList ms->Ry (λz=>b2i<|key z) ns ms->Q (.ref a) s'):
  wpAny (model X.prog X.w) A (call (.builtin "sorted") [.ref tp] [(Str.ofString "key",.ref q)]) Q E s:=by
 have CZ:sizeLine=16777216:=TF;have BB:=hv.length
 refine call_function_entry_kw kind_sorted plain_sorted entry_sorted (ksk_s1 _ _) ?_;unfold Builtin.«sorted»;refine XU (m:=checkCount "sorted" 1 1 _) (Ym ?_);refine XU (collect_list ht ?_ uD);refine XU (JP ?_ uD);have hsz:((s.heap.push<|seqObj "list" #[] 0).update s.heap.objs.size (Obj.mapSeq (·++vs.toArray))).objs.size=s.heap.objs.size+1:=by rw[Heap.size_update,size_push']
 have JB:(((s.heap.push<|seqObj "list" #[] 0).update s.heap.objs.size (Obj.mapSeq (·++vs.toArray))).push (seqObj "list" vs.toArray 0)).get? (s.heap.objs.size+1)=some (seqObj "list" vs.toArray 0):=by rw[<-hsz];exact Yk _ rfl
 have keep:∀b o,s.heap.get? b=some o->(((s.heap.push<|seqObj "list" #[] 0).update s.heap.objs.size (Obj.mapSeq (·++vs.toArray))).push (seqObj "list" vs.toArray 0)).get? b=some o:=λb o q=>by have Xn:b<s.heap.objs.size:=Yq q;exact Xc _ ((YU _ _<|Rn Xn).trans (Xc _ q))
 show wpAny _ _ _ _ _ {s with heap:=((s.heap.push<|seqObj "list" #[] 0).update s.heap.objs.size (Obj.mapSeq (·++vs.toArray))).push (seqObj "list" vs.toArray 0)};rw[hsz];have Fa:FpOk X pins H (s.heap.objs.size+1):=I.fpOk (TH _) (I.hok.fresh<|TH _)
 refine XU (RN<|wpAny_call_entry_kw slot_list_sort ⟨_,JB,Z⟩ entry_list_sort ?body (ksk_l1 _ _));show wpAny (model X.prog X.w) A.in1.in1 (Builtin.«list.sort» ⟨[.ref (s.heap.objs.size+1)],[(Str.ofString "key",.ref q)]⟩) _ _ _
 rw[ksk_t1];refine ZQ8 (s:={s with heap:=((s.heap.push<|seqObj "list" #[] 0).update s.heap.objs.size (Obj.mapSeq (·++vs.toArray))).push (seqObj "list" vs.toArray 0),toks:=s.toks}) (I.kept keep) Fa JB hv Qi turn λs' m out ms AP e hi hs=>⟨_,Z,?_⟩;exact Ym ⟨_,Z,h s' _ m out ms Fa AP e hi hs⟩
end
def lx(K:Ad)(Pt:Addr)(Vz:Pos)(qual:Str)(i:Nat)(te tb:TE):TE:=λσ H Q=>te σ H λy H1=>∃(p:Addr)(ns:Ac)(vx:V)(key:Int->Bool),y=.ref p/\SqL K H1 p (ns.map V.int)/\ns.length<64/\TabH H1 Pt Vz qual/\σ[i]?=some (some vx)/\
 (∀H2,SameX Pt H1 H2->∀z∈ns,tb [some (.int z),some vx] H2 λr H3=>r=.bl (key z)/\H3=H2)/\
 ∀(ms:Ac)(l:Addr)(H2:Hp),Ry (λz=>b2i<|key z) ns ms->SameX Pt H1 H2->TabH H2 Pt Vz qual->H2 l=none->Q (.ref l) (upd H2 l<|.lst<|ms.map V.int)
section
variable{X:Cx}{p kp pos Vz:Pos}{e body:Expr}{params:Arguments}{scope:Scope}{te tb:TE}{v x:Str}{i k:Nat}{c Pt cc:Addr}
theorem SqL.samexT{K:Ad}{H H2:Hp}{a:Addr}{xs:List V}{qual:Str}(h:SqL K H a xs)(t:TabH H Pt Vz qual)(sx:SameX Pt H H2):SqL K H2 a xs:=by
 obtain⟨ps,hP,_⟩:=t;rcases h with (h|⟨o,h⟩)|h
 .exact .inl (.inl<|sx _ _ (λz=>by rw[z,hP]at h;cases h) h)
 .exact .inl (.inr ⟨o,sx _ _ (λz=>by rw[z,hP]at h;cases h) h⟩)
 .exact .inr h
theorem ZZ5(he:PE X e te)(hg:Gl X (Str.ofString "sorted"))(hm:X.mg (Str.ofString "sorted")=none)(hr:Room (k+3) X.A)(hex:X.ex=[])(Uk:X.env.code=.ref c)(hC:codeHdIn X.K c Pt=true)(hB:X.base.BuiltinsAt X.mg Pt)(BH:mainGlobals≠Pt)
  (uz:LamScope v x scope)(Tu:closureFor scope X.env=pure [(x,cc)])(Ii:defaultsOf params X.env=([],[]))(Tb:∀(c':Addr)(pm RA u:Value),bindArgs (kla_fn (Str.ofString "<lambda>") (X.env.qual++Str.ofString "<lambda>") params body scope [(x,cc)] pm (.ref c') RA) ⟨[u],[]⟩=pure [(v,u)])
  (hi:X.N[i]?=some x)(bC:X.env.kindOf x=some .cell)(Wf:X.env.cells.lookup x=some cc)
  (hb:∀(f c':Addr)(A:Around)(outer:List Env)(s:Shared)(H:Hp),Room k (A.deeper<|envX (X.env.qual++Str.ofString "<lambda>") scope s.heap.objs.size f (.ref c') [(x,cc)])->PE (OC X.prog X.w X.K X.mg X.base [v,x] (X.env.qual++Str.ofString "<lambda>") scope f (.ref c') [(x,cc)] A outer s H) body tb)(hs:starEach [e] X.env=[(false,eval e X.env)]:=by rfl):
  PE X (.Call (.Name (Str.ofString "sorted") p) [e] [⟨some<|Str.ofString "key",.Lambda params body scope Vz,kp⟩] pos) (lx X.K Pt Vz (X.env.qual++Str.ofString "<lambda>") i te tb):=by
 intro pins s σ H Q I h;refine NP (Ra I hg hm Boot.«sorted» ?_ uB uB);have ha:PA X [e] (Jm te Jn):=XY he XW hs
 refine callWith_kw (thn (ha pos pins s σ H (λvs H1=>match vs with
  |[y]=>∃(p:Addr)(ns:Ac)(vx:V)(key:Int->Bool),y=.ref p/\SqL X.K H1 p (ns.map V.int)/\ns.length<64/\TabH H1 Pt Vz (X.env.qual++Str.ofString "<lambda>")/\σ[i]?=some (some vx)/\
   (∀H2,SameX Pt H1 H2->∀z∈ns,tb [some (.int z),some vx] H2 λr H3=>r=.bl (key z)/\H3=H2)/\
   ∀(ms:Ac)(l:Addr)(H2:Hp),Ry (λz=>b2i<|key z) ns ms->SameX Pt H1 H2->TabH H2 Pt Vz (X.env.qual++Str.ofString "<lambda>")->H2 l=none->Q (.ref l) (upd H2 l<|.lst<|ms.map V.int)
  |_=>False) I h) λus s1 hh=>?_) (by rw[hs];rfl) (by rw[hs];rfl) Z rfl
 obtain⟨vs,H1,I1,r,q⟩:=hh
 match vs,r,q with
 |[],_,q=>exact False.elim q
 |_::_::_,_,q=>exact False.elim q
 |[y],r,q=>
  obtain⟨p2,ns,vx,key,rfl,hq,Qi,hT,hσ,hk,q⟩:=q;obtain⟨u,rfl,ru⟩:=WL r;obtain rfl:u=Value.ref p2:=ru;refine kws_cons (BI I1 Uk hC hB hT Tu Ii BH λf c' pm RA s2 H2 sx tab F I2 hf WI=>kws_nil ?_);have I3:=I2.pin1 F hf λv z=>by cases z
  have KJ:=SqL.samexT hq hT sx;obtain⟨XT,rv,g1,hz⟩:=I2.list KJ;have hv:=ZA rv
  refine ZX5 I3 g1.isList hv Qi (key:=key) (λpl z t s3 hmem AP=>?_) λs3 a m out ms Fa AP Mn Ij Vb=>?_
  .-- the lambda called
   have Pk:s3.heap.get? f=some (kla_obj (Str.ofString "<lambda>") (X.env.qual++Str.ofString "<lambda>") params body scope [(x,cc)] pm c' RA):=(AP.pin (f,_)<|Yi _<|Yd _<|Yi _ Xd).1;obtain⟨mm,_,lu⟩:=AP.loc;obtain⟨ux,rx,BA⟩:=lu i x vx hi hσ (.inr<|.inl bC);have Uq:s3.heap.IsCell cc (some ux):=by
    rcases BA with ⟨kz,_⟩|⟨_,c2,e2,Wc⟩
    .rw[bC]at kz;cases kz
    .rw[Wf]at e2;cases e2;exact Wc
   have Mo:s3.heap.CodeRec (.ref c') (X.env.qual++Str.ofString "<lambda>"):=(AP.hok c' _ WI).1;have Wa:Room (k+1) X.A.in1.in1:=(hr.in1).in1
   refine EF (Ly (BM (u:=.int z t) (vv:=.int z) uz Wa AP.env0.in1.in1 Pk Mo (Tb c' pm RA _) Uq rx (AP.freeC x cc Wf) ⟨t,Z⟩ (hb f c' _ _ s3 H2<|Wa.deeper _)<|hk H2 sx z hmem) λrr s4 hh=>?_);obtain⟨u',rfl,ce⟩:=hh;obtain⟨v',H',J',pf,e1,e2⟩:=AP.after ce;subst e1 e2;obtain rfl:=pf;exact⟨Z,J'⟩
  .have J0:Inv X pins σ H2 s3:=AP.unpinned;have Fa0:FpOk X pins H2 a:=⟨Fa.1,Fa.2.1,Fa.2.2.1,Fa.2.2.2.1,Fa.2.2.2.2.1,λp hp=>Fa.2.2.2.2.2 p (by
    rcases XE.mp hp with hp|hp
    .exact Yd _ hp
    .exact Yi _<|Yd _ hp)⟩
   have Nw:ms.length=ns.length:=by obtain⟨pp,h1,_,rfl⟩:=Vb;rw[Yb,h1.length_eq,PL]
   refine⟨.ref a,_,J0.adopt hex Fa0 (u:=.lst<|ms.map V.int) ⟨?_,out.toList,m,OZ Ij,by simpa using Mn⟩,Z,q ms a H2 Vb sx tab Fa.1⟩;rw[Yb,Nw]
   have:sizeLine=16777216:=TF
   lia
end
abbrev QA:List (Str×Value):=[(Str.ofString "default",.none)]
section
variable{prog:Program}{w:World}{A:Around}{I uz:Addr}{fp wr:List Addr}{n:Nat}{P:Nat->Value->Prop}{St:Nat->Heap->Prop}{R:Result->Shared->Prop}
theorem ZJ8(W:Walks prog w A.in1 I fp wr n P St)(lt:Nat->Nat->Bool)(C:Heap->Prop)(ck:∀h h',C h->(∀b o,b≠uz->b∉wr->h.get? b=some o->h'.get? b=some o)->C h')(cc:∀s i j v u E Q,C s.heap->i≠j->P i v->P j u->Q (.bool (lt i j)) s->wpAny (model prog w) A.in1 (compareOp .Lt v u) Q E s)(Sh:uz∉fp):∀k j s vb c,n-(j+1)=k->j+1<=n->St (j+1) s.heap->P (argBest lt j) vb->C s.heap->
  s.heap.get? uz=some {cls:=.type "list",dict:=none,data:=.seq #[vb,vb] c,slots:=#[]}->
  (∀v h' tk,P (argBest lt<|n-1) v->(∀b o,b≠uz->b∉wr->s.heap.get? b=some o->h'.get? b=some o)->R (.ok<|.ret v) {s with heap:=h',toks:=tk})->
  codeAny (model prog w) A (.builtin "min.loop" ⟨[.ref I,.none,.ref uz],QA⟩) R s:=by
 have wR:uz∉wr:=λh=>Sh (W.sub _ h);have nm:(toString "min"++toString ".loop":String)="min.loop":=uB
 intro k
 induction k with
 |zero=>
  intro j s vb c hk hj st pb ta hS hR;have ej:j+1=n:=uE
  refine RP yN ?_;rw[JV Nh _];show wpAny _ A.in1 (seqItems? (.ref uz) >>= _) _ _ s
  refine XU (JR hS Z ?_);show wpAny _ A.in1 (tryCatch (pyNext<|.ref I) _ >>= _) _ _ s
  refine XU (ER<|W.done s _ _ (ej▸st) λh' tk SY=>?_);have SA:=SY uz _ wR hS
  show wpAny _ A.in1 (updateSeq uz (λ_=>#[]) >>= _) _ _ _;refine XU (yM SA Z<|XU<|GA<|Ym ?_);exact hR vb _ tk (by rwa[<-ej]) λb o b1 b2 e=>(YU _ _<|XI b1).trans (SY b o b2 e)
 |succ k ih=>
  intro j s vb c hk hj st pb ta hS hR;have Xn:j+1<n:=uD
  refine RP yN ?_;rw[JV Nh _];show wpAny _ A.in1 (seqItems? (.ref uz) >>= _) _ _ s
  refine XU (JR hS Z ?_);show wpAny _ A.in1 (tryCatch (pyNext<|.ref I) _ >>= _) _ _ s
  refine XU (ER<|W.item (j+1) s _ _ Xn st λv h' tk pv VD SY=>?_);have SA:=SY uz _ wR hS
  have lq:=ck _ h' ta λb o _ b2 e=>SY b o b2 e;show wpAny _ A.in1 (tryCatch (holding [v,v]<|richCompare .Lt (v) (vb) >>= _) _ >>= _) _ _ _
  refine XU (ER<|RN<|XU<|show wpAny _ _ (compareOp .Lt (v)<|vb) _ _ _ from cc {s with heap:=h',toks:=tk} (j+1) _ v vb _ _ lq (Rn<|Nat.lt_succ_of_le<|My.RI _ _) pv pb ?_);refine XU (RN<|PK ?_);refine XU (GA<|Ym ?_);cases hb:lt (j+1) (argBest lt j) with
  |true=>
   simp only[NL];refine XU (yM SA Z<|XU<|GA ?_);rw[nm];have up:∀b o,b≠uz->h'.get? b=some o->(h'.update uz<|Obj.mapSeq λ_=>#[v,v]).get? b=some o:=λb o b1 e=>(YU _ _<|XI b1).trans e
   refine Ym ⟨Nd Nh _,ih (j+1) _ (v) _ uD Xn (W.frame _ h' _ VD λb KA o e=>up b o (λh=>Sh<|h▸KA) e) ?_ (ck _ _ lq λb o b1 _ e=>up b o b1 e) (VF _ SA Z) λv' Bz OA By Bx=>?_⟩
   .unfold argBest;rw[if_pos hb];exact pv
   .exact hR v' Bz OA By λb o b1 b2 e=>Bx b o b1 b2 (up b o b1<|SY b o b2 e)
  |false=>
   simp only[Fc,Sr];refine XU (GA ?_);rw[nm];refine Ym ⟨Nd Nh _,ih (j+1) _ (vb) c uD Xn VD ?_ lq SA λv' Bz OA By Bx=>?_⟩
   .unfold argBest;rwa[if_neg (by rw[hb];decide)]
   .exact hR v' Bz OA By λb o b1 b2 e=>Bx b o b1 b2 (SY b o b2 e)
theorem lp(W:Walks prog w A.in1 I fp wr n P St)(lt:Nat->Nat->Bool)(C:Heap->Prop)(ck:∀h h',C h->(∀b o,b≠uz->b∉wr->h.get? b=some o->h'.get? b=some o)->C h')(cc:∀s i j v u E Q,C s.heap->i≠j->P i v->P j u->Q (.bool (lt i j)) s->wpAny (model prog w) A.in1 (compareOp .Lt v u) Q E s)(Sh:uz∉fp)(hn:0<n){c:Nat}(st:St 0 s.heap)(ta:C s.heap)(hS:s.heap.get? uz=some {cls:=.type "list",dict:=none,data:=.seq #[] c,slots:=#[]})
  (hR:∀v h' tk,P (argBest lt<|n-1) v->(∀b o,b≠uz->b∉wr->s.heap.get? b=some o->h'.get? b=some o)->R (.ok<|.ret v) {s with heap:=h',toks:=tk}):
  codeAny (model prog w) A (.builtin "min.loop" ⟨[.ref I,.none,.ref uz],QA⟩) R s:=by
 have wR:uz∉wr:=λh=>Sh (W.sub _ h);have nm:(toString "min"++toString ".loop":String)="min.loop":=uB
 refine RP yN ?_;rw[JV Nh _];show wpAny _ A.in1 (seqItems? (.ref uz) >>= _) _ _ s
 refine XU (JR hS Z ?_);show wpAny _ A.in1 (tryCatch (pyNext<|.ref I) _ >>= _) _ _ s
 refine XU (ER<|W.item 0 s _ _ hn st λv h' tk pv VD SY=>?_);have SA:=SY uz _ wR hS
 show wpAny _ A.in1 (updateSeq uz (λ_=>#[v,v]) >>= _) _ _ _;refine XU (yM SA Z ?_);rw[nm];have up:∀b o,b≠uz->h'.get? b=some o->(h'.update uz<|Obj.mapSeq λ_=>#[v,v]).get? b=some o:=λb o b1 e=>(YU _ _<|XI b1).trans e
 refine Ym ⟨Nd Nh _,ZJ8 W lt C ck cc Sh _ 0 _ v _ Z hn (W.frame _ h' _ VD λb KA o e=>up b o (λh=>Sh<|h▸KA) e) pv (ck _ _ ta λb o b1 b2 e=>up b o b1<|SY b o b2 e) (VF _ SA Z) λv' Bz OA By Bx=>?_⟩;exact hR v' Bz OA By λb o b1 b2 e=>Bx b o b1 b2 (up b o b1<|SY b o b2 e)
theorem ZI8(W:Walks prog w A.in1 I fp wr n P St)(hn:n=0)(Sh:uz∉fp){c:Nat}(st:St 0 s.heap)(hS:s.heap.get? uz=some {cls:=.type "list",dict:=none,data:=.seq #[] c,slots:=#[]})
  (hR:∀h' tk,(∀b o,b≠uz->b∉wr->s.heap.get? b=some o->h'.get? b=some o)->R (.ok<|.ret .none) {s with heap:=h',toks:=tk}):
  codeAny (model prog w) A (.builtin "min.loop" ⟨[.ref I,.none,.ref uz],QA⟩) R s:=by
 subst hn;refine RP yN ?_;rw[JV Nh _];show wpAny _ A.in1 (seqItems? (.ref uz) >>= _) _ _ s
 refine XU (JR hS Z ?_);show wpAny _ A.in1 (tryCatch (pyNext<|.ref I) _ >>= _) _ _ s
 refine XU (ER<|W.done s _ _ st λh' tk SY=>?_);refine XU (Gz<|Ym ?_);exact hR h' tk λb o _ b2 e=>SY b o b2 e
theorem ZR4{E:Ae}{s:Shared}{id:String}{b:Builtin}{args:Ag}{kw:List (Str×Value)}{Q:Ae}(hk:builtinKind id=none)(hp:plainId id=true)(hb:entryFor table id=some b)(ha:argsOk id ⟨args,kw⟩)
  (hc:wpAny (model prog w) A.in1 (b ⟨args,kw⟩) (λfin s'=>match fin with
   | .done f=>(match (Except.ok f:Result) with | .ok (.ret v)=>Q v s' | .ok _=>False | .error e=>E e s')
   | .again c'=>c'.quiet=true/\codeAny (model prog w) A c' (λr s'=>match r with | .ok (.ret v)=>Q v s' | .ok _=>False | .error e=>E e s') s') E s):wpAny (model prog w) A (call (.builtin id) args kw) Q E s:=by
 refine EF (codeAny_call_builtin hp hb ?_);simp only[checkBuiltinCall,hk];cases lj:Manifest.signature? id with
 |none=>exact Ym hc
 |some sig=>
  have Gd:Bind.checkArgs id sig ⟨args,kw⟩=pure ():=by simpa only[argsOk,lj] using ha
  simp only[Gd];exact Ym hc
theorem lh(a:Value):argsOk "min" ⟨[a],QA⟩:=by unfold argsOk;kernel_rfl
theorem lg{E:Ae}{s:Shared}{Q:Ae}(hh:A.handled=none)(hl:s.heap.IsList l (intItems xs))
  (h0:xs.size=0->∀h' tk,(∀b o,s.heap.get? b=some o->h'.get? b=some o)->Q .none {s with heap:=h',toks:=tk})
  (h:0<xs.size->∀v h' tk,(intItems xs)[argBest (λi j=>decide<|numAt xs i<numAt xs j) (xs.size-1)]?=some v->(∀b o,s.heap.get? b=some o->h'.get? b=some o)->Q v {s with heap:=h',toks:=tk}):
  wpAny (model prog w) A (call (.builtin "min") [.ref l] QA) Q E s:=by
 have nm:(toString "min"++toString ".loop":String)="min.loop":=uB;refine ZR4 F.kind_min F.plain_min F.entry_min (lh _) ?_;show wpAny _ A.in1 (Builtin.Builtins.bindParams "min" ["key","default"] 0 ⟨[],QA⟩ >>= _) _ _ s
 refine XU (SM (a:=[none,some .none]) Z ?_);refine XU (Ym ?_);refine XU (iter_intList hl λs₂ e st xb hlI=>?_);subst e;refine XU (Qr ?_);rw[nm];have W:=Walks.list (prog:=prog) (w:=w) (A:=A.in1) hh s.heap.objs.size l hlI (intItems xs)
 obtain⟨G,hG⟩:∃G,G=s.heap.push {cls:=.type "list_iterator",data:=.fields #[.ref l,.int 0 0]}:=⟨_,Z⟩;have hold:∀b o,s.heap.get? b=some o->b≠G.objs.size/\b∉[s.heap.objs.size]/\(G.push {cls:=.type "list",data:=.seq #[] 0}).get? b=some o:=λb o e=>by
  have Xn:=Yq e;have lb:b<G.objs.size:=by rw[hG];exact Yw Xn (by rw[UH];exact TH _)
  refine⟨YB lb,λhm=>by rw[XG.mp hm]at Xn;exact Sw _ Xn,Xc _<|by rw[hG];exact Xc _ e⟩
 rw[<-hG]at st xb ⊢;have Sh:G.objs.size∉[s.heap.objs.size,l]:=λhm=>Sw _ (xb _ hm)
 have MR:=W.frame 0 G (G.push {cls:=.type "list",data:=.seq #[] 0}) st λb _ o e=>Xc _ e;have k9:(intItems xs).size=xs.size:=by simp[intItems]
 rcases Nat.eq_zero_or_pos xs.size with hz|hz
 .refine Ym ⟨Nd Nh _,ZI8 W (k9.trans hz) Sh MR (Yk _ Z) λh' tk hk=>?_⟩;exact h0 hz h' tk λb o e=>by obtain⟨a1,a2,a3⟩:=hold b o e;exact hk b o a1 a2 a3
 .refine Ym ⟨Nd Nh _,lp W (λi j=>decide<|numAt xs i<numAt xs j) (λ_=>True) (λ_ _ _ _=>trivial) (λs i j v u E Q _ _ pv pu q=>?_) Sh (by rwa[k9]) MR trivial (Yk _ Z) λv h' tk pv hk=>?_⟩
  .obtain⟨t1,rfl⟩:=intItems_at pv;obtain⟨t2,rfl⟩:=intItems_at pu;exact lt_int q
  .rw[k9]at pv;exact h hz v h' tk pv λb o e=>by obtain⟨a1,a2,a3⟩:=hold b o e;exact hk b o a1 a2 a3
end
def k8(K:Ad)(te:TE):TE:=λσ H Q=>te σ H λy H1=>∃p ns,y=.ref p/\SqL K H1 p (ns.map V.int)/\(ns=[]->Q .non H1)/\∀m:Int,m∈ns->(∀a∈ns,m<=a)->Q (.int m) H1
theorem bB{p kp pos cp:Pos}{j:Nat}(hc:X.calm=true)(hg:Gl X (Str.ofString "min"))(hm:X.mg (Str.ofString "min")=none)(he:PE X e te)(hs:starEach [e] X.env=[(false,eval e X.env)]:=by rfl):
  PE X (.Call (.Name (Str.ofString "min") p) [e] [⟨some<|Str.ofString "default",.Constant .none j cp,kp⟩] pos) (k8 X.K te):=by
 intro pins s σ H Q I h;refine NP (Ra I hg hm Boot.«min» ?_ uB uB);have ha:PA X [e] (Jm te Jn):=XY he XW hs
 refine callWith_kw (thn (ha pos pins s σ H (λvs H1=>match vs with
  |[y]=>∃p ns,y=.ref p/\SqL X.K H1 p (ns.map V.int)/\(ns=[]->Q .non H1)/\∀m:Int,m∈ns->(∀a∈ns,m<=a)->Q (.int m) H1
  |_=>False) I h) λus s1 hh=>?_) (by rw[hs];rfl) (by rw[hs];rfl) Z rfl
 obtain⟨vs,H1,I1,r,q⟩:=hh
 match vs,r,q with
 |[],_,q=>exact False.elim q
 |_::_::_,_,q=>exact False.elim q
 |[y],r,q=>
  obtain⟨p2,ns,rfl,hq,q0,q1⟩:=q;obtain⟨u,rfl,ru⟩:=WL r;obtain rfl:u=Value.ref p2:=ru;refine kws_cons (Constant_none<|kws_nil ?_);obtain⟨XT,rv,pl,hz⟩:=I1.list hq;have hi:=ZA rv
  obtain⟨xs,e'⟩:=hi.allInts.items;have Rz:ns=xs.toList.map (·.1):=by rw[<-hi.numsOf,<-nums_intItems,<-e']
  have hl:=pl.isList;rw[e']at hl;refine lg (I1.ok.hd hc) hl (λhsz h' tk hk=>?_) λhsz v h' tk hv hk=>?_
  .refine⟨.non,H1,I1.kept (t':=tk) hk,Z,q0 ?_⟩;rw[Rz,JW];exact YY.mp (by rwa[YE])
  .obtain⟨t,rfl⟩:=intItems_at hv;obtain⟨h1,h2⟩:=argBest_lt (numAt xs) (xs.size-1);refine⟨.int _,H1,I1.kept (t':=tk) hk,⟨t,Z⟩,q1 _ ?_ λa ha=>?_⟩
   .rw[Rz,numAt_eq];exact getD_mem (by rw[Yb,YE];omega)
   .rw[Rz]at ha;obtain⟨j,hj,rfl⟩:=mem_getD ha;rw[Yb,YE]at hj;rw[<-numAt_eq];exact h2 j uE
end L2
namespace My
open PySem L2
def Bw(K:Ad)(mg:Af)(x qual:Str)(st:Stmt)(fs:List Str)(Pt:Addr):Prop:=∃C f fd c,mg x=some (.ref C)/\Fun K "__init__" qual st f fd/\Cls K C/\Mk K C f/\(∀a∈fs,NoAttr K C a)/\fd.code=.ref c/\PySem.W.codeHdIn K c Pt=true
theorem Ic{mg:Af}{oc:Value}{od an:Option Addr}{Tz:Array (Option Value)}{kV doc pm ct:Value}(X:K.In h)(G:h.Ns mainGlobals mg)
  (aC:PySem.W.nsIn K mainGlobals x=some (some<|.ref C))(a:PySem.W.findIn K (.ref C) "__init__"=some (some<|.ref f))(i:PySem.W.isFn K (.ref f)=true)
  (l:K.lookup f=some ⟨oc,od,.func<|PySem.W.fnOf "__init__" qual (Le st) (QU st) (Xt st) .none kV doc pm an (.ref cA) ct,Tz⟩)(c:PySem.W.codeIn K (.ref cA) qual=true)(k:PySem.W.keepIn K (.ref f)=true)
  (pg:PySem.W.plainGet K C Str.empty=true)(hd:PySem.W.hasDictIn K C=true)(po:PySem.W.plainOver K C=true)(sa:PySem.W.findIn K (.ref C) "__setattr__"=some (some<|.builtin "object.__setattr__"))(mk:PySem.W.makesIn K C=true)(kc:PySem.W.keepIn K (.ref C)=true)
  (na:∀a∈fs,PySem.W.findIn K (.ref C) a=some none)(z:PySem.W.codeHdIn K cA Pt=true):Bw K mg x qual st fs Pt:=
 ⟨C,f,_,cA,EU X G aC,MK l c k,⟨pg,hd,po,sa⟩,⟨mk,a,i,kc⟩,na,Z,z⟩
def Mm(M:Ac)(ps:Aa)(g:Ac)(i:Nat):Ac:=(Wi i).filter λz=>decide (z∉g/\mk M (ps.getD z.toNat (0,0)).1.toNat≠mk M (ps.getD z.toNat (0,0)).2.toNat)
theorem k7(M:Ac)(ps:Aa)(g:Ac)(i:Nat):Mm M ps g (i+1)=Mm M ps g i++if (i:Int)∉g/\mk M (ps.getD i (0,0)).1.toNat≠mk M (ps.getD i (0,0)).2.toNat then [(i:Int)] else []:=by
 unfold Mm;rw[dQ,Qs];congr 1;rw[YT,vc];show(if decide ((i:Int)∉g/\mk M (ps.getD ((i:Int).toNat) (0,0)).1.toNat≠mk M (ps.getD ((i:Int).toNat) (0,0)).2.toNat)=true then [(i:Int)] else [])=_
 rw[YA];simp only[LJ]
theorem k6(M:Ac)(ps:Aa)(g:Ac)(i:Nat):(Mm M ps g i).length<=i:=Yv (YF ..) (by rw[ZI];exact XJ _)
def WZ:Option Int->V
 |none=>.non
 |some z=>.int z
def wQ(w k s ld l i fu:V):List (Str×V):=[("web",w),("kept",k),("shut",s),("lead",ld),("least",l),("incoming",i),("further",fu)]
theorem WB:SameX x H (upd H x o):=λb o' hb e=>by rwa[Zb hb]
theorem WebAt.but{C CP w x dx:Addr}(h:WebAt C H w n ps)(hx:H x=some (.ins CP dx []))(s:SameX x H H1):WebAt C H1 w n ps:=by
 obtain⟨d,tl,xs,h1,h2,h3⟩:=h;refine⟨d,tl,xs,s _ _ (λe=>?_) h1,s _ _ (λe=>?_) h2,h3.1,λi p e=>?_⟩
 .rw[e,hx]at h1
  have:=Xy (λo=>match o with|some (HO.ins _ _ fs)=>fs.length|_=>0) h1
  exact absurd this (by show ¬0=2;decide)
 .rw[e,hx]at h2;cases h2
 .obtain⟨v,a1,tt,a2,a3⟩:=h3.2 i p e;exact⟨v,a1,tt,a2,s _ _ (λe=>by rw[e,hx]at a3;cases a3) a3⟩
theorem Bv{CP a x dx:Addr}(h:SqT K H a xs)(hx:H x=some (.ins CP dx []))(s:SameX x H H1):SqT K H1 a xs:=by
 rcases h with (h|⟨o,h⟩)|h
 .exact .inl (.inl<|s _ _ (λz=>by rw[z,hx]at h;cases h) h)
 .exact .inl (.inr ⟨o,s _ _ (λz=>by rw[z,hx]at h;cases h) h⟩)
 .exact .inr h
theorem k5{CP Pt x dx:Addr}(t:TabH H Pt pos qual)(hx:H x=some (.ins CP dx []))(s:SameX x H H1):TabH H1 Pt pos qual:=by
 obtain⟨ps,h1,h2,h3⟩:=t;refine⟨ps,s _ _ (λe=>by rw[e,hx]at h1;cases h1) h1,h2,?_⟩;rcases h3 with h|⟨c,h,h'⟩
 .exact .inl h
 .exact .inr ⟨c,h,s _ _ (λe=>by rw[e,hx]at h';cases h') h'⟩
theorem Bu(ha:SqT K H a (IL l))(hb:SqT K H b (IL m))(hl:l.length+m.length<=1000)(k:∀r H',Same H H'->SqT K H' r (IL (l++m))->Q (.ref r) H'):rCatU K (.ref a) (.ref b) H Q:=by
 refine⟨a,b,_,_,Z,Z,ha,hb,by rw[XD,XD];exact Yv hl uB,λe=>?_,λ_ e=>?_,λ_ _ p hp=>?_⟩
 .have el:l=[]:=JW.mp e;rw[el,Ng]at k;exact k b H (Same.refl _) hb
 .have em:m=[]:=JW.mp e;rw[em,YI]at k;exact k a H (Same.refl _) ha
 .refine k p _ (XZ hp) (SqT.of ?_);rw[XS,Dx]
def Uj(M:Ac)(ps:Aa)(z:Int):Int×Int:=(min (mk M (ps.getD z.toNat (0,0)).1.toNat)<|mk M (ps.getD z.toNat (0,0)).2.toNat,max (mk M (ps.getD z.toNat (0,0)).1.toNat)<|mk M (ps.getD z.toNat (0,0)).2.toNat)
theorem bz{l:Ac}(hp:l.Perm [a,b])(hs:l.Pairwise (·<=·)):l=[min a b,max a b]:=by
 by_cases c:a<=b
 .rw[va c,JD c];exact xG hp hs (by simpa using c)
 .rw[JE J,uZ uD];exact xG (hp.trans<|List.Perm.swap b a []) hs (by simp;omega)
theorem bx{z:Int}(h:z∈Mm M ps g i):0<=z/\z<(i:Int):=Xq.mp (Yh.mp h).1
def WO(n:Int)(ps:Aa)(I O F:Ac):Ac:=Mm (Xs n.toNat<|XR ps I) ps (I++O++F) ps.length
def SX(n:Int)(ps:Aa)(I O F:Ac)(ld:Option Int):Ac:=(WO n ps I O F).filter λz=>decide (∃y,ld=some y/\Uj (Xs n.toNat<|XR ps I) ps z=Uj (Xs n.toNat<|XR ps I) ps y)
def VM(n:Int)(ps:Aa)(I O F:Ac)(ld:Option Int):Ac:=(WO n ps I O F).filter λz=>decide (z∉SX n ps I O F ld)
def PartAt(K:Ad)(CP C:Addr)(H:Hp)(x:Addr)(n:Int)(ps:Aa)(I O F inc:Ac)(ld fu:Option Int):Prop:=∃dx w a b l i,H x=some (.ins CP dx<|wQ (.ref w) (.ref a) (.ref b) (WZ ld) (.ref l) (.ref i)<|WZ fu)/\WebAt C H w n ps/\SqT K H a (IL I)/\SqT K H b (IL O)/\H l=some (.tup<|IL F)/\H i=some (.lst<|IL inc)
theorem PartAt.samex(h:PartAt K CP C H x n ps I O F inc ld fu)(t:TabH H Pt pos qual)(sx:SameX Pt H H2):PartAt K CP C H2 x n ps I O F inc ld fu:=by obtain⟨dx,w,a,b,l,i,h1,h2,h3,h4,h5,h6⟩:=h;exact⟨dx,w,a,b,l,i,sx _ _ (t.ne h1 S) h1,h2.samex t sx,SqK.samex (kd:=true) h3 t sx,SqK.samex (kd:=true) h4 t sx,sx _ _ (t.ne h5 S) h5,sx _ _ (t.ne h6 S) h6⟩
structure PartOk(n:Int)(ps:Aa)(I O:Ac)(ld:Option Int)(F inc:Ac)(fu:Option Int):Prop where
 tr:With n ps I O F
 least:∀U,With n ps I O U->HT.lexLt U F=false
 inc:Ry (λz=>PyProof.Rows.b2i<|decide<|ld=some z) (SX n ps I O F ld) inc
 none:fu=none↔VM n ps I O F ld=[]
 some:∀y,fu=some y->y∈VM n ps I O F ld/\∀z∈VM n ps I O F ld,y<=z
def xchT(F:Ac)(o z:Int):Ac:=(wo F o++[z]).mergeSort λa b=>decide (a<=b)
theorem Ku(F:Ac)(o z:Int):(xchT F o z).Perm (wo F o++[z]):=List.mergeSort_perm _ _
theorem FK(F:Ac)(o z:Int):(xchT F o z).Pairwise (·<=·):=by
 refine(gj (le:=λa b:Int=>decide<|a<=b) (λa b c h1 h2=>?_) (λa b=>?_) _).imp λh=>Yr h
 .simp only[LJ]at *;lia
 .simp only[uX,LJ];lia
def WD(n:Int)(ps:Aa)(I F:Ac)(z:Int):Ac:=(Ti n ps F z F).filter λt=>decide (t∉I)
section
variable{n:Int}{ps:Aa}{I O F T M:Ac}{x y z:Int}(g:Zz n ps)
include g
theorem Oz(hF:With n ps I O F)(he:exg n ps F x y)(hx:x∉I)(hy:y∉O)(hp:M.Perm (wo F x++[y]))(hs:M.Pairwise (·<=·)):With n ps I O M:=by
 refine⟨xE g hF.1 he hp hs,λv hv=>(xD g hF.1 he hp hs).mpr (.inl ⟨hF.2.1 v hv,λe=>hx<|e▸hv⟩),λv hv h=>?_⟩;rcases(xD g hF.1 he hp hs).mp h with h|h
 .exact hF.2.2 v hv h.1
 .exact hy (h▸hv)
theorem bw(hF:Zf n ps F)(he:exg n ps F x y)(h:y<x)(hp:M.Perm (wo F x++[y]))(hs:M.Pairwise (·<=·)):HT.lexLt M F=true:=by
 have tM:=xE g hF he hp hs;have yF:y∉F:=((CW g hF).mp he).2.1
 refine(OH (XX.mp tM.1).2 (XX.mp hF.1).2 (by have:=tM.2.1;have:=hF.2.1;lia)).mpr ⟨y,(xD g hF he hp hs).mpr (.inr Z),yF,λs ND=>?_⟩;rw[xD g hF he hp hs];constructor
 .rintro(q|q)
  .exact q.1
  .lia
 .exact λq=>.inl ⟨q,J⟩
theorem Ib(hF:With n ps I O F)(Vn:∀U,With n ps I O U->HT.lexLt U F=false)(hT:With n ps (I++[z]) O T)(Kt:∀U,With n ps (I++[z]) O U->HT.lexLt U T=false):∀v∈T,v∈F\/v=z:=λv hv=>Yx λno=>by
 have vF:v∉F:=λh=>no (.inl h);have vz:v≠z:=λh=>no (.inr h)
 obtain⟨u,e1,e2⟩:=pQ g hT.1 hF.1 hv vF;have uF:u∈F:=e2.1
 have uT:u∉T:=((CW g hT.1).mp e1).2.1;have uI:u∉I:=λh=>uT (hT.2.1 u<|Yd _ h)
 have vO:v∉O:=λh=>hT.2.2 v h hv;have uO:u∉O:=λh=>hF.2.2 u h uF
 have vI:v∉I++[z]:=λh=>by
  rcases XE.mp h with h|h
  .exact vF (hF.2.1 v h)
  .exact vz (XG.mp h)
 have uv:u≠v:=λe=>uT (e▸hv);obtain⟨M1,p1,q1⟩:=pO (wo F u++[v]);have w1:=Oz g hF e2 uI vO p1 q1
 obtain⟨M2,p2,q2⟩:=pO (wo T v++[u]);have w2:=Oz g hT e1 vI uO p2 q2
 rcases Int.lt_or_lt_of_ne uv with h|h
 .have:=bw g hT.1 e1 h p2 q2
  rw[Kt M2 w2]at this;cases this
 .have:=bw g hF.1 e2 h p1 q1
  rw[Vn M1 w1]at this;cases this
theorem wO(hF:With n ps I O F)(Vn:∀U,With n ps I O U->HT.lexLt U F=false)(hz:z∉F):With n ps I (O++[z]) F/\∀U,With n ps I (O++[z]) U->HT.lexLt U F=false:=
 ⟨⟨hF.1,hF.2.1,λv hv=>(XE.mp hv).elim (hF.2.2 v) λh=>by rwa[XG.mp h]⟩,λU hU=>Vn U ⟨hU.1,hU.2.1,λv hv=>hU.2.2 v<|Yd _ hv⟩⟩
end
theorem WA{z:Int}:With n ps I O T↔With n ps I (O++[z]) T\/With n ps (I++[z]) O T:=by
 constructor
 .intro h;by_cases c:z∈T
  .exact .inr ⟨h.1,λv hv=>(XE.mp hv).elim (h.2.1 v) λe=>by rw[XG.mp e];exact c,h.2.2⟩
  .exact .inl ⟨h.1,h.2.1,λv hv=>(XE.mp hv).elim (h.2.2 v) λe=>by rwa[XG.mp e]⟩
 .rintro(h|h)
  .exact⟨h.1,h.2.1,λv hv=>h.2.2 v<|Yd _ hv⟩
  .exact⟨h.1,λv hv=>h.2.1 v<|Yd _ hv,h.2.2⟩
def RowAll(n:Int)(ps:Aa)(I O:Ac)(R:Ab):Prop:=R.Nodup/\∀T,T∈R↔With n ps I O T
theorem RowAll.pc(h:RowAll n ps I O R):PC n ps I O R.length:=⟨R,h.1,λl=>h.2 l,Z⟩
theorem ZK6{z:Int}(hA:RowAll n ps I (O++[z]) A)(hB:RowAll n ps (I++[z]) O uw):RowAll n ps I O (A++uw.reverse):=by
 refine⟨YM.mpr ⟨hA.1,(List.reverse_perm uw).nodup_iff.mpr hB.1,λa ha b hb e=>?_⟩,λT=>?_⟩
 .subst e;exact((hA.2 a).mp ha).2.2 z S (((hB.2 a).mp (GL.mp hb)).2.1 z S)
 .rw[XE,GL,hA.2,hB.2];exact WA.symm
theorem k4{a b c d:Int}(h1:min a b=min c d)(h2:max a b=max c d):(a=c/\b=d)\/(a=d/\b=c):=by
 rcases Int.le_total a b with p|p<;>rcases Int.le_total c d with q|q<;>simp only[va,JE,uZ,JD,p,q]at h1 h2
 .exact .inl ⟨h1,h2⟩
 .exact .inr ⟨h1,h2⟩
 .exact .inr ⟨h2,h1⟩
 .exact .inl ⟨h2,h1⟩
section
variable{n:Int}{ps:Aa}{I O F T:Ac}{o t t':Int}(g:Zz n ps)
include g
theorem bu(hT:Zf n ps T)(ho:o∈T):¬Conn (XR ps (wo T o)) (Zx ps o).1 (Zx ps o).2:=by obtain⟨o0,o1⟩:=hT.1.all o ho;exact(Vo g hT o0 o1).mp ((CU g hT ho ho).mpr Z)
theorem Zh8(hT:Zf n ps T)(hI:∀v∈I,v∈T)(ht:t∈T)(hn:t∉I):¬Conn (XR ps I) (Zx ps t).1 (Zx ps t).2:=λc=>
 bu g hT ht (c.mono<|ZN λv hv=>Xg.mpr ⟨hI v hv,λe=>hn<|by rwa[<-e]⟩)
theorem br(Xm:∀z∈I,0<=z/\z<(ps.length:Int))(t0:0<=t)(t1:t<(ps.length:Int))(s0:0<=t')(s1:t'<(ps.length:Int))(h:Uj (Xs n.toNat (XR ps I)) ps t=Uj (Xs n.toNat (XR ps I)) ps t'):
  (Conn (XR ps I) (Zx ps t).1 (Zx ps t').1/\Conn (XR ps I) (Zx ps t).2 (Zx ps t').2)\/(Conn (XR ps I) (Zx ps t).1 (Zx ps t').2/\Conn (XR ps I) (Zx ps t).2 (Zx ps t').1):=by
 have WE:=ZO g Xm;have a:=Th (z:=t) g t0 t1
 have b:=Th (z:=t') g s0 s1;have h:(min (mk (Xs n.toNat<|XR ps I) (Zx ps t).1)<|mk (Xs n.toNat<|XR ps I) (Zx ps t).2,max (mk (Xs n.toNat<|XR ps I) (Zx ps t).1)<|mk (Xs n.toNat<|XR ps I) (Zx ps t).2)=(min (mk (Xs n.toNat<|XR ps I) (Zx ps t').1)<|mk (Xs n.toNat<|XR ps I) (Zx ps t').2,max (mk (Xs n.toNat<|XR ps I) (Zx ps t').1)<|mk (Xs n.toNat<|XR ps I) (Zx ps t').2):=h
 obtain⟨h1,h2⟩:=Prod.mk.inj h;rw[<-QN WE a.1 b.1,<-QN WE a.2 b.2,<-QN WE a.1 b.2,<-QN WE a.2 b.1];exact k4 h1 h2
theorem Zi9(Xm:∀z∈I,0<=z/\z<(ps.length:Int))(hT:Zf n ps T)(hI:∀v∈I,v∈T)(ht:t∈T)(hs:t'∈T)(hn:t∉I)(Rb:t'∉I)(h:Uj (Xs n.toNat (XR ps I)) ps t=Uj (Xs n.toNat (XR ps I)) ps t'):t=t':=Yx λne=>by
 obtain⟨t0,t1⟩:=hT.1.all t ht;obtain⟨s0,s1⟩:=hT.1.all t' hs;have sub:∀v∈I++[t],v∈wo T t':=λv hv=>by
  rcases XE.mp hv with hv|hv
  .exact Xg.mpr ⟨hI v hv,λe=>Rb<|by rwa[<-e]⟩
  .rw[XG.mp hv];exact Xg.mpr ⟨ht,ne⟩
 have up:∀{i j},Conn (XR ps I) i j->Conn (XR ps<|I++[t]) i j:=λc=>c.mono (ZN λv hv=>Yd _ hv);have ed:Conn (XR ps<|I++[t]) (Zx ps t).1 (Zx ps t).2:=.edge (Yz.mpr ⟨t,S,Z⟩)
 have c:Conn (XR ps<|I++[t]) (Zx ps t').1 (Zx ps t').2:=by
  rcases br g Xm t0 t1 s0 s1 h with ⟨a,b⟩|⟨a,b⟩
  .exact((up a).symm.trans ed).trans (up b)
  .exact((up b).symm.trans ed.symm).trans (up a)
 exact bu g hT hs (c.mono<|ZN sub)
theorem k0(Xm:∀z∈I,0<=z/\z<(ps.length:Int))(hT:With n ps I O T)(hF:∀v∈I,v∈F)(ht:t∈T)(hn:t∉F):t∈WO n ps I O F:=by
 obtain⟨t0,t1⟩:=hT.1.1.all t ht;have a:=Th (z:=t) g t0 t1
 have hI:t∉I:=λh=>hn (hF t h);refine Yh.mpr ⟨Xq.mpr ⟨t0,t1⟩,Yp ⟨λh=>?_,λe=>?_⟩⟩
 .rcases XE.mp h with h|h
  .rcases XE.mp h with h|h
   .exact hI h
   .exact hT.2.2 t h ht
  .exact hn h
 .exact Zh8 g hT.1 hT.2.1 ht hI ((QN (ZO g Xm) a.1 a.2).mp e)
end
def VG(n:Int)(ps:Aa)(I F:Ac)(asc:Bool)(z:Int):Ab:=if asc then (WD n ps I F z).map λo=>xchT F o z else ((WD n ps I F z).map λo=>xchT F o z).reverse
def Vm(n:Int)(ps:Aa)(I F:Ac):Ac->Bool->Ab
 |[],_=>[]
 |z::r,asc=>VG n ps I F asc z++Vm n ps I F r (!asc)
theorem kZ(n:Int)(ps:Aa)(I F:Ac)(z:Int):∀l asc,Vm n ps I F (l++[z]) asc=Vm n ps I F l asc++VG n ps I F (asc != (l.length%2 == 1)) z
 |[],asc=>by show VG n ps I F asc z++[]=[]++VG n ps I F (asc != false) z;rw[YI,Ng,Bool.bne_false]
 |y::l,asc=>by show VG n ps I F asc y++Vm n ps I F (l++[z]) (!asc)=VG n ps I F asc y++Vm n ps I F l (!asc)++_;rw[kZ n ps I F z l,Wd,Yt];congr 3;rcases(by lia:l.length%2=0/\(l.length+1)%2=1\/l.length%2=1/\(l.length+1)%2=0) with ⟨a,b⟩|⟨a,b⟩<;>rw[a,b]<;>cases asc<;>rfl
theorem Bt(n:Int)(ps:Aa)(I F:Ac)(asc:Bool)(z:Int):(VG n ps I F asc z).length<=F.length:=by
 unfold VG;have h:(WD n ps I F z).length<=F.length:=Yv (YF ..) (Gb n ps F z F)
 split
 .rw[Yb];exact h
 .rw[YS,Yb];exact h
theorem bq(n:Int)(ps:Aa)(I F:Ac):∀l asc,(Vm n ps I F l asc).length<=l.length*F.length
 |[],_=>Yj _
 |z::l,asc=>by
  show(VG n ps I F asc z++Vm n ps I F l (!asc)).length<=_;rw[Xu,Yt,Nat.succ_mul]
  have:=Bt n ps I F asc z
  have:=bq n ps I F l (!asc)
  lia
def Bs(n:Int)(ps:Aa)(I F inc:Ac):Ab:=F::Vm n ps I F inc (inc.length%2 == 1)
theorem Xa:o∈Ti n ps F t F↔o∈F/\t∈US n ps F o:=by unfold Ti;rw[Yh,YV];exact Iff.rfl
theorem XF{o t v:Int}:v∈xchT F o t↔(v∈F/\v≠o)\/v=t:=by rw[(Ku F o t).mem_iff,XE,Xg,XG]
section
variable{n:Int}{ps:Aa}{I O F T:Ac}{ld:Option Int}{o t:Int}(g:Zz n ps)
include g
theorem Br(Xm:∀z∈I,0<=z/\z<(ps.length:Int))(hF:With n ps I O F)(hu:VM n ps I O F ld=[])(hT:With n ps I O T):T=F\/∃t∈WO n ps I O F,∃o∈WD n ps I F t,T=xchT F o t:=by
 by_cases c:∀v∈T,v∈F
 .exact .inl (lB g hT.1 hF.1 c)
 .obtain⟨t,ht,hn⟩:∃t,t∈T/\t∉F:=Yx λno=>c λv hv=>Yx λhn=>no ⟨v,hv,hn⟩;have bp:=k0 g Xm hT hF.2.1 ht hn
  have alike:∀v∈WO n ps I O F,∃y,ld=some y/\Uj (Xs n.toNat<|XR ps I) ps v=Uj (Xs n.toNat<|XR ps I) ps y:=λv hv=>by
   have hm:v∈SX n ps I O F ld:=Yx λno=>by
    have:v∈VM n ps I O F ld:=Yh.mpr ⟨hv,Yp no⟩
    rw[hu]at this;cases this
   exact Yr (Yh.mp hm).2
  have only:∀v∈T,v∉F->v=t:=λv hv bo=>by obtain⟨y,e1,e2⟩:=alike v (k0 g Xm hT hF.2.1 hv bo);obtain⟨y',e3,e4⟩:=alike t bp;rw[e1]at e3;cases e3;exact Zi9 g Xm hT.1 hT.2.1 hv ht (λh=>bo<|hF.2.1 v h) (λh=>hn<|hF.2.1 t h) (e2.trans e4.symm)
  obtain⟨o,e1,e2⟩:=pQ g hT.1 hF.1 ht hn;have oT:o∉T:=((CW g hT.1).mp e1).2.1
  have hM:=xE g hF.1 e2 (Ku F o t) (FK F o t);refine .inr ⟨t,bp,o,Yh.mpr ⟨Xa.mpr ⟨e2.1,e2.2.2⟩,Yp λh=>oT<|hT.2.1 o h⟩,lB g hT.1 hM λv hv=>XF.mpr ?_⟩;by_cases cv:v∈F
  .exact .inl ⟨cv,λe=>oT<|by rwa[<-e]⟩
  .exact .inr (only v hv cv)
theorem bj(hF:With n ps I O F)(ht:t∈WO n ps I O F)(ho:o∈WD n ps I F t):With n ps I O (xchT F o t):=by
 obtain⟨h1,h2⟩:=Yh.mp ht;obtain⟨hg,_⟩:=Yr h2;obtain⟨h3,h4⟩:=Yh.mp ho;obtain⟨h5,h6⟩:=Xa.mp h3;have tF:t∉F:=λh=>hg (Yi _ h)
 exact Oz g hF ⟨h5,λe=>tF (by rwa[e]),h6⟩ (Yr h4) (λh=>hg<|Yd _<|Yi _ h) (Ku F o t) (FK F o t)
end
theorem Rx{I F T:Ac}:T∈VG n ps I F asc z↔∃o∈WD n ps I F z,T=xchT F o z:=by
 have h:T∈((WD n ps I F z).map λo=>xchT F o z)↔∃o∈WD n ps I F z,T=xchT F o z:=by rw[Yz];exact⟨λzz=>by obtain⟨o,h1,h2⟩:=zz;exact⟨o,h1,h2.symm⟩,λzz=>by obtain⟨o,h1,h2⟩:=zz;exact⟨o,h1,h2.symm⟩⟩
 unfold VG;split
 .exact h
 .rw[GL];exact h
theorem VL{I F T:Ac}:∀{l:Ac}{asc:Bool},T∈Vm n ps I F l asc↔∃z∈l,∃o∈WD n ps I F z,T=xchT F o z
 |[],_=>⟨λh=>(by cases h),λzz=>by obtain⟨_,h,_⟩:=zz;exact(by cases h)⟩
 |z::l,asc=>by
  show T∈VG n ps I F asc z++Vm n ps I F l (!asc)↔_;rw[XE,Rx,VL];constructor
  .rintro(h|⟨z',h1,h2⟩)
   .exact⟨z,Xd,h⟩
   .exact⟨z',Yf _ h1,h2⟩
  .rintro⟨z',h1,h2⟩;rcases Yg.mp h1 with e|e
   .exact .inl (e▸h2)
   .exact .inr ⟨z',e,h2⟩
theorem Bq(ht:t∉F)(e:xchT F o t=xchT F o' t'):t=t':=by
 have:t∈xchT F o' t':=e▸XF.mpr (.inr Z)
 rcases XF.mp this with h|h
 .exact absurd h.1 ht
 .exact h
theorem kY(ho:o∈F)(ht:t∉F)(e:xchT F o t=xchT F o' t):o=o':=Yx λne=>by
 have h1:o∈xchT F o' t:=XF.mpr (.inl ⟨ho,ne⟩);rw[<-e]at h1;rcases XF.mp h1 with h|h
 .exact h.2 rfl
 .exact ht (h▸ho)
theorem ZK8(hF:F.Nodup)(hz:z∉F):(VG n ps I F asc z).Nodup:=by
 have hm:∀v∈WD n ps I F z,v∈F:=λv hv=>(Xa.mp (Yh.mp hv).1).1;have h:((WD n ps I F z).map λo=>xchT F o z).Nodup:=by have hd:(WD n ps I F z).Pairwise (·≠·):=(hF.filter _).filter _;exact LI.mpr (gp (λ{a b} ha hb Vw e=>Vw<|kY (hm a ha) hz e) hd)
 unfold VG;split
 .exact h
 .exact(List.reverse_perm _).nodup_iff.mpr h
theorem Bp(hF:F.Nodup):∀{l:Ac}{asc:Bool},l.Nodup->(∀z∈l,z∉F)->(Vm n ps I F l asc).Nodup
 |[],_,_,_=>.nil
 |z::l,asc,hn,hl=>by
  obtain⟨n1,n2⟩:=RQ.mp hn;refine YM.mpr ⟨ZK8 hF<|hl z Xd,Bp hF n2 λv hv=>hl v<|Yf _ hv,λa ha b hb e=>?_⟩;obtain⟨o,_,h1⟩:=Rx.mp ha;obtain⟨z',wN,o',_,h2⟩:=VL.mp hb;rw[h1,h2]at e
  have:=Bq (hl z Xd) e
  exact n1 (this▸wN)
theorem Bo(g:Zz n ps)(Xm:∀z∈I,0<=z/\z<(ps.length:Int))(hF:With n ps I O F)(hu:VM n ps I O F ld=[])(SW:∀z,z∈inc↔z∈WO n ps I O F)(hn:inc.Nodup):RowAll n ps I O (Bs n ps I F inc):=by
 have wM:∀z∈inc,z∉F:=λz hz h=>(Yr (Yh.mp<|(SW z).mp hz).2).1 (Yi _ h);refine⟨RQ.mpr ⟨λh=>?_,Bp hF.1.1.nodup hn wM⟩,λT=>?_⟩
 .obtain⟨z,hz,o,_,e⟩:=VL.mp h;exact wM z hz (by rw[e];exact XF.mpr<|.inr Z)
 .unfold Bs;rw[Yg,VL];constructor
  .rintro(h|⟨z,hz,o,ho,rfl⟩)
   .rw[h];exact hF
   .exact bj g hF ((SW z).mp hz) ho
  .intro h;rcases Br g Xm hF hu h with e|⟨t,ht,o,ho,e⟩
   .exact .inl e
   .exact .inr ⟨t,(SW t).mpr ht,o,ho,e⟩
theorem bh{u v i j:Nat}(c:Conn (es++[(u,v)]) i j):Conn es i j\/(Conn es i u/\Conn es v j)\/(Conn es i v/\Conn es u j):=by
 induction c with
 |refl i=>exact .inl (.refl i)
 |edge h=>
  rcases XE.mp h with h|h
  .exact .inl (.edge h)
  .cases XG.mp h;exact .inr (.inl ⟨.refl _,.refl _⟩)
 |symm _ ih=>
  rcases ih with a|⟨a,b⟩|⟨a,b⟩
  .exact .inl a.symm
  .exact .inr (.inr ⟨b.symm,a.symm⟩)
  .exact .inr (.inl ⟨b.symm,a.symm⟩)
 |trans _ _ OU Sz=>
  rcases OU with a|⟨a,b⟩|⟨a,b⟩<;>rcases Sz with c|⟨c,d⟩|⟨c,d⟩
  .exact .inl (a.trans c)
  .exact .inr (.inl ⟨a.trans c,d⟩)
  .exact .inr (.inr ⟨a.trans c,d⟩)
  .exact .inr (.inl ⟨a,b.trans c⟩)
  .exact .inr (.inl ⟨a,d⟩)
  .exact .inl (a.trans d)
  .exact .inr (.inr ⟨a,b.trans c⟩)
  .exact .inl (a.trans d)
  .exact .inr (.inr ⟨a,d⟩)
theorem Oy{key:Int->Int}(h:Ry key ns ms):ms.Perm ns:=by
 obtain⟨p,h1,_,rfl⟩:=h;have e:(List.range ns.length).map (λi=>ns.getD i 0)=ns:=by
  refine GO λi=>?_;rw[Yl];by_cases c:i<ns.length
  .rw[Rh c,Xw c];show some (ns.getD i 0)=_
   rw[Ya,Xw c];rfl
  .rw[Vs (by simpa using c),Vs J];rfl
 have:=h1.map λi=>ns.getD i 0
 rwa[e]at this
theorem kX(key:Int->Int)(ns:Ac):∃ms,Ry key ns ms:=by
 have hp:=List.mergeSort_perm (List.range ns.length) λi j=>decide (key (ns.getD i 0)<key (ns.getD j 0)\/(key (ns.getD i 0)=key (ns.getD j 0)/\i<=j));have hs:=gj (le:=λi j=>decide<|key (ns.getD i 0)<key (ns.getD j 0)\/(key (ns.getD i 0)=key (ns.getD j 0)/\i<=j)) (λa b c h1 h2=>by simp only[LJ]at *;grind) (λa b=>by simp only[uX,LJ];grind) (List.range ns.length)
 refine⟨_,_,hp,?_,Z⟩;refine(hs.and<|hp.nodup_iff.mpr List.nodup_range).imp λ{a b} h=>?_;have h1:=Yr h.1
 have h2:=h.2;show key (ns.getD a 0)<key (ns.getD b 0)\/(key (ns.getD a 0)=key (ns.getD b 0)/\a<b)
 grind
theorem Bn(n:Int)(ps:Aa)(I O F:Ac)(ld:Option Int):(VM n ps I O F ld).Pairwise (·<·):=((QM _).filter _).filter _
theorem Ks(g:Zz n ps)(ld:Option Int)(h:∃U,With n ps I O U):∃F inc fu,PartOk n ps I O ld F inc fu:=by
 obtain⟨L,l1,l2⟩:=mj g;obtain⟨U,hU⟩:=h;obtain⟨F,hF,hm⟩:∃F,With n ps I O F/\∀U,With n ps I O U->HT.lexLt U F=false:=by
  have key:∀M:Ab,M.Pairwise VP->(∃U∈M,With n ps I O U)->∃F∈M,With n ps I O F/\∀U∈M,With n ps I O U->HT.lexLt U F=false:=by
   intro M
   induction M with
   |nil=>rintro _ ⟨U,h,_⟩;cases h
   |cons x M ih=>
    intro hp hex;obtain⟨p1,p2⟩:=QP.mp hp;by_cases c:With n ps I O x
    .refine⟨x,Xd,c,λV hV _=>?_⟩;rcases Yg.mp hV with e|e
     .rw[e];exact FZ x
     .cases q:HT.lexLt V x with
      |false=>rfl
      |true=>
       have z:=xC q (p1 V e);rw[FZ]at z;cases z
    .obtain⟨V,hV,hw⟩:=hex;obtain⟨F,hF,a,b⟩:=ih p2 ⟨V,(Yg.mp hV).resolve_left λe=>c<|e▸hw,hw⟩;refine⟨F,Yf _ hF,a,λV hV hw=>?_⟩;rcases Yg.mp hV with e|e
     .exact absurd (e▸hw) c
     .exact b V e hw
  obtain⟨F,_,a,b⟩:=key L l2 ⟨U,(l1 U).mpr hU.1,hU⟩;exact⟨F,a,λV hV=>b V ((l1 V).mpr hV.1) hV⟩
 obtain⟨inc,hi⟩:=kX (λz=>PyProof.Rows.b2i<|decide<|ld=some z) (SX n ps I O F ld);have Sd:=Bn n ps I O F ld
 cases hu:VM n ps I O F ld with
 |nil=>exact⟨F,inc,none,hF,hm,hi,⟨λ_=>hu,λ_=>rfl⟩,λy h=>by cases h⟩
 |cons y l=>
  rw[hu]at Sd;refine⟨F,inc,some y,hF,hm,hi,⟨λh=>(by cases h),λh=>(by rw[hu]at h;cases h)⟩,λv h=>?_⟩;cases h;rw[hu];refine⟨Xd,λv hv=>?_⟩;rcases Yg.mp hv with e|e
  .rw[e];exact Lw _
  .exact GC ((QP.mp Sd).1 v e)
inductive RowR(n:Int)(ps:Aa):Nat->Ac->Ac->Option Int->Ab->Prop
 |und {d:Nat} {I O F inc:Ac} {ld:Option Int}:PartOk n ps I O ld F inc none->inc.length<=30->(∀z∈inc,z∉F/\0<=z/\z<(ps.length:Int))->RowR n ps d I O ld (Bs n ps I F inc)
 |div {d:Nat} {I O F inc:Ac} {z y:Int} {A uw:Ab}:PartOk n ps I O (some z) F inc (some y)->(I++[z]).Nodup->(∀v∈I++[z],0<=v/\v<(ps.length:Int))->(∀v∈I++[z],v∉O)->(O++[z]).length<=30->(∃U,With n ps (I++[z]) O U)->(∃U,With n ps I (O++[z]) U)->0<=y->y<(ps.length:Int)->PC n ps I (O++[z]) A.length->RowR n ps d I (O++[z]) (some y) A->RowR n ps d (I++[z]) O (some y) uw->RowR n ps (d+1) I O (some z) (A++uw.reverse)
theorem Zl8{key:Int->Int}(h:Ry key ns ms)(h':Ry key ns Kr):ms=Kr:=by
 obtain⟨p,h1,h2,rfl⟩:=h;obtain⟨p',FR,kW,rfl⟩:=h';have e:p=p':=List.Perm.eq_of_pairwise (le:=Ahd λi=>key<|ns.getD i 0) (λa b _ _ x y=>by unfold Ahd at x y;omega) h2 kW (h1.trans FR.symm)
 rw[e]
theorem PartOk.uniq{n:Int}{ps:Aa}{I O F F' inc Wo:Ac}{ld fu Kq:Option Int}(h1:PartOk n ps I O ld F inc fu)(h2:PartOk n ps I O ld F' Wo Kq):F=F'/\inc=Wo/\fu=Kq:=by
 have eF:F=F':=Tg (h2.least F h1.tr) (h1.least F' h2.tr);subst eF;refine⟨Z,Zl8 h1.inc h2.inc,?_⟩;cases fu with
 |none=>
  cases Kq with
  |none=>rfl
  |some y=>
   have:=(h2.some y Z).1
   rw[h1.none.mp Z]at this;cases this
 |some y=>
  cases Kq with
  |none=>
   have:=(h1.some y Z).1
   rw[h2.none.mp Z]at this;cases this
  |some y'=>
   obtain⟨a1,a2⟩:=h1.some y rfl;obtain⟨b1,b2⟩:=h2.some y' rfl
   have:=a2 y' b1
   have:=b2 y a1
   rw[show y=y' by omega]
def RowW(n:Int)(ps:Aa)(R:Ab):Prop:=∃ld F inc fu,PartOk n ps [] [] ld F inc fu/\(ld=none↔WO n ps [] [] F=[])/\(∀y,ld=some y->y∈WO n ps [] [] F/\∀z∈WO n ps [] [] F,y<=z)/\RowR n ps 31 [] [] ld R/\TC n ps R.length
section
variable{n:Int}{ps:Aa}{I O F:Ac}{y z:Int}(g:Zz n ps)
include g
theorem Vl(Xm:∀v∈I,0<=v/\v<(ps.length:Int)):z∈WO n ps I O F↔(0<=z/\z<(ps.length:Int))/\z∉I/\z∉O/\z∉F/\¬Conn (XR ps I) (Zx ps z).1 (Zx ps z).2:=by
 unfold WO Mm;rw[Yh,Xq,YV];constructor
 .rintro⟨h,h1,h2⟩;have a:=Th (z:=z) g h.1 h.2
  exact⟨h,λq=>h1<|Yd _<|Yd _ q,λq=>h1<|Yd _<|Yi _ q,λq=>h1<|Yi _ q,λc=>h2<|(QN (ZO g Xm) a.1 a.2).mpr c⟩
 .rintro⟨h,h1,h2,h3,h4⟩;have a:=Th (z:=z) g h.1 h.2
  refine⟨h,λq=>?_,λe=>h4<|(QN (ZO g Xm) a.1 a.2).mp e⟩;rcases XE.mp q with q|q
  .rcases XE.mp q with q|q
   .exact h1 q
   .exact h2 q
  .exact h3 q
theorem wL(Xm:∀v∈I,0<=v/\v<(ps.length:Int))(hF:With n ps I O F)(hz:z∈WO n ps I O F):∃U,With n ps (I++[z]) O U:=by
 obtain⟨⟨z0,z1⟩,zI,zO,zF,hc⟩:=(Vl g Xm).mp hz;obtain⟨o,ho,hoI⟩:∃o,o∈Ti n ps F z F/\o∉I:=Yx λno=>hc ((CM g hF.1 z0 z1).mono (ZN λv hv=>Yx λh=>no ⟨v,hv,h⟩));obtain⟨h5,h6⟩:=Xa.mp ho;have he:exg n ps F o z:=⟨h5,λe=>zF (by rwa[e]),h6⟩
 have hw:=Oz g hF he hoI zO (Ku F o z) (FK F o z);refine⟨xchT F o z,hw.1,λv hv=>?_,hw.2.2⟩;rcases XE.mp hv with hv|hv
 .exact hw.2.1 v hv
 .rw[XG.mp hv];exact XF.mpr (.inr Z)
theorem Bm(Xm:∀v∈I,0<=v/\v<(ps.length:Int))(y0:0<=y/\y<(ps.length:Int))(z0:0<=z/\z<(ps.length:Int))(h:(Conn (XR ps I) (Zx ps y).1 (Zx ps z).1/\Conn (XR ps I) (Zx ps z).2 (Zx ps y).2)\/(Conn (XR ps I) (Zx ps y).1 (Zx ps z).2/\Conn (XR ps I) (Zx ps z).1 (Zx ps y).2)):Uj (Xs n.toNat (XR ps I)) ps y=Uj (Xs n.toNat (XR ps I)) ps z:=by
 have WE:=ZO g Xm;have a:=Th (z:=y) g y0.1 y0.2
 have b:=Th (z:=z) g z0.1 z0.2;rw[<-QN WE a.1 b.1,<-QN WE b.2 a.2,<-QN WE a.1 b.2,<-QN WE b.1 a.2]at h;show(min (mk (Xs n.toNat<|XR ps I) (Zx ps y).1)<|mk (Xs n.toNat<|XR ps I) (Zx ps y).2,max (mk (Xs n.toNat<|XR ps I) (Zx ps y).1)<|mk (Xs n.toNat<|XR ps I) (Zx ps y).2)=(min (mk (Xs n.toNat<|XR ps I) (Zx ps z).1)<|mk (Xs n.toNat<|XR ps I) (Zx ps z).2,max (mk (Xs n.toNat<|XR ps I) (Zx ps z).1)<|mk (Xs n.toNat<|XR ps I) (Zx ps z).2)
 rcases h with ⟨e1,e2⟩|⟨e1,e2⟩
 .rw[e1,<-e2]
 .rw[e1,<-e2,Int.min_comm,Int.max_comm]
end
section
variable{n:Int}{ps:Aa}(g:Zz n ps)
include g
theorem Kp(d:Nat)(hP:PartOk n ps I O ld F inc fu)(Xm:∀v∈I,0<=v/\v<(ps.length:Int))(hu:VM n ps I O F ld=[]):∃R,RowR n ps d I O ld R/\RowAll n ps I O R:=by
 obtain rfl:=hP.none.mpr hu;have hp:=Oy hP.inc
 have TR:(SX n ps I O F ld).Nodup:=((((QM _).imp λh e=>by lia:(Wi ps.length).Nodup)).filter _).filter _;have SW:∀z,z∈inc↔z∈WO n ps I O F:=λz=>by
  rw[hp.mem_iff];constructor
  .exact λh=>(Yh.mp h).1
  .intro h;refine Yx λno=>?_
   have:z∈VM n ps I O F ld:=Yh.mpr ⟨h,Yp no⟩
   rw[hu]at this;cases this
 have hlen:inc.length<=30:=by rw[hp.length_eq];refine Yv (YF ..) (Yv (k6 _ _ _ _) g.2.2.1)
 exact⟨_,.und hP hlen λz hz=>by obtain⟨h1,_,_,h2,_⟩:=(Vl g Xm).mp ((SW z).mp hz);exact⟨h2,h1⟩,Bo g Xm hP.tr hu SW<|hp.nodup_iff.mpr TR⟩
theorem kT:∀d I O F inc ld fu,PartOk n ps I O ld F inc fu->I.Nodup->(∀v∈I,0<=v/\v<(ps.length:Int))->(∀v∈I,v∉O)->O.Nodup->(∀v∈O,0<=v/\v<(ps.length:Int))->(ld=none->WO n ps I O F=[])->(∀z,ld=some z->z∈WO n ps I O F)->ps.length<=d+I.length+O.length->∃R,RowR n ps d I O ld R/\RowAll n ps I O R:=by
 intro d
 induction d with
 |zero=>
  intro I O F inc ld fu hP hIn Xm VZ wK wJ _ _ hm;refine Kp g 0 hP Xm ?_;have wM:WO n ps I O F=[]:=Fm.mpr λz hz=>by
   obtain⟨h1,h2,h3,_⟩:=(Vl g Xm).mp hz;have nd:(z::(I++O)).Nodup:=RQ.mpr ⟨λh=>(XE.mp h).elim h2 h3,YM.mpr ⟨hIn,wK,λa ha b hb e=>VZ a ha<|e▸hb⟩⟩
   have:=IC (m:=Wi ps.length) nd λv hv=>Xq.mpr (by
    rcases Yg.mp hv with e|e
    .rw[e];exact h1
    .exact(XE.mp e).elim (Xm v) (wJ v))
   rw[ZI,Yt,Xu]at this;lia
  unfold VM;rw[wM];rfl
 |succ d ih=>
  intro I O F inc ld fu hP hIn Xm VZ wK wJ Qf Ui hm;by_cases hu:VM n ps I O F ld=[]
  .exact Kp g _ hP Xm hu
  obtain⟨y,rfl⟩:∃y,fu=some y:=by
   cases fu with
   |none=>exact absurd (hP.none.mp Z) hu
   |some y=>exact⟨y,Z⟩
  obtain⟨yu,_⟩:=hP.some y rfl;obtain⟨yo,ya⟩:=Yh.mp yu;have ya:=Yr ya
  obtain⟨z,rfl⟩:∃z,ld=some z:=by
   cases ld with
   |none=>rw[Qf Z]at yo;cases yo
   |some z=>exact⟨z,Z⟩
  have zo:=Ui z rfl;obtain⟨Ml,yI,yO,yF,yc⟩:=(Vl g Xm).mp yo;obtain⟨Ko,zI,zO,zF,zc⟩:=(Vl g Xm).mp zo;have XH:Uj (Xs n.toNat<|XR ps I) ps y≠Uj (Xs n.toNat<|XR ps I) ps z:=λe=>ya (Yh.mpr ⟨yo,Yp ⟨z,Z,e⟩⟩)
  have yz:y≠z:=λe=>XH (by rw[e]);have bg:(I++[z]).Nodup:=YM.mpr ⟨hIn,S,λa ha b hb e=>zI<|by rwa[<-XG.mp hb,<-e]⟩
  have bc:(O++[z]).Nodup:=YM.mpr ⟨wK,S,λa ha b hb e=>zO<|by rwa[<-XG.mp hb,<-e]⟩;have TN:∀v∈I++[z],0<=v/\v<(ps.length:Int):=λv hv=>(XE.mp hv).elim (Xm v) λh=>by rwa[XG.mp h]
  have Bl:∀v∈O++[z],0<=v/\v<(ps.length:Int):=λv hv=>(XE.mp hv).elim (wJ v) λh=>by rwa[XG.mp h]
  have Sb:(O++[z]).length<=30:=by
   have:=IC (m:=Wi ps.length) bc λv hv=>Xq.mpr (Bl v hv)
   rw[ZI]at this
   have:=g.2.2.1
   lia
  have Bk:∀v∈I++[z],v∉O:=λv hv=>(XE.mp hv).elim (VZ v) λh=>by rwa[XG.mp h]
  have kR:∀v∈I,v∉O++[z]:=λv hv h=>(XE.mp h).elim (VZ v hv) λh=>zI (by rwa[<-XG.mp h]);obtain⟨s1,s2⟩:=wO g hP.tr hP.least zF;obtain⟨F1,Sa,Ia,Ms⟩:=Ks g (some y) ⟨F,s1⟩;have e1:F1=F:=Tg (s2 F1 Ms.tr) (Ms.least F s1)
  subst e1;have hW:=wL g Xm hP.tr zo
  obtain⟨F2,Ox,Bj,Tt⟩:=Ks g (some y) hW;have yF2:y∉F2:=λh=>(Ib g hP.tr hP.least Tt.tr Tt.least y h).elim yF yz
  obtain⟨A,OY,Tw⟩:=ih I (O++[z]) F1 Sa (some y) Ia Ms hIn Xm kR bc Bl (λh=>by cases h) (λv h=>by cases h;exact(Vl g Xm).mpr ⟨Ml,yI,λh=>(XE.mp h).elim yO λh=>yz<|XG.mp h,yF,yc⟩) (by rw[Xu,Yu];lia)
  obtain⟨uw,eA,MB⟩:=ih (I++[z]) O F2 Ox (some y) Bj Tt bg TN Bk wK wJ (λh=>by cases h) (λv h=>by
   cases h;refine(Vl g TN).mpr ⟨Ml,λh=>(XE.mp h).elim yI λh=>yz<|XG.mp h,yO,yF2,λc=>?_⟩;have e:XR ps (I++[z])=XR ps I++[((Zx ps z).1,(Zx ps z).2)]:=YG
   rw[e]at c;rcases bh c with h|h
   .exact yc h
   .exact XH<|Bm g Xm Ml Ko h) (by rw[Xu,Yu];lia)
  exact⟨_,.div hP bg TN Bk Sb hW ⟨F1,s1⟩ Ml.1 Ml.2 Tw.pc OY eA,ZK6 Tw MB⟩
theorem kQ(h:∃U,Zf n ps U):∃R,RowW n ps R/\R.Nodup/\∀T,T∈R↔Zf n ps T:=by
 obtain⟨U,hU⟩:=h;have hw:∀T,With n ps [] [] T↔Zf n ps T:=λT=>⟨λh=>h.1,λh=>⟨h,λz q=>(by cases q),λz q=>(by cases q)⟩⟩
 obtain⟨F,_,_,bb⟩:=Ks g none ⟨U,(hw U).mpr hU⟩;have Sd:(WO n ps [] [] F).Pairwise (·<·):=(QM _).filter _
 obtain⟨ld,h1,h2⟩:∃ld:Option Int,(ld=none↔WO n ps [] [] F=[])/\∀y,ld=some y->y∈WO n ps [] [] F/\∀z∈WO n ps [] [] F,y<=z:=by
  cases ho:WO n ps [] [] F with
  |nil=>exact⟨none,⟨λ_=>rfl,λ_=>rfl⟩,λy h=>by cases h⟩
  |cons y l=>
   rw[ho]at Sd;refine⟨some y,⟨λh=>(by cases h),λh=>(by cases h)⟩,λv h=>?_⟩;cases h;refine⟨Xd,λv hv=>?_⟩;rcases Yg.mp hv with e|e
   .rw[e];exact Lw _
   .exact GC ((QP.mp Sd).1 v e)
 obtain⟨F',inc,fu,hP⟩:=Ks g ld ⟨U,(hw U).mpr hU⟩;have eF:F'=F:=Tg (bb.least F' hP.tr) (hP.least F bb.tr)
 subst eF;obtain⟨R,r1,r2⟩:=kT g 31 [] [] F' inc ld fu hP .nil (λv h=>by cases h) (λv h=>by cases h) .nil (λv h=>by cases h) (λe=>h1.mp e) (λz e=>(h2 z e).1) (by have:=g.2.2.1;simp;lia);exact⟨R,⟨ld,F',inc,fu,hP,h1,h2,r1,R,r2.1,λl=>(r2.2 l).trans (hw l),Z⟩,r2.1,λT=>(r2.2 T).trans (hw T)⟩
end
end My
namespace L2
open PySem PySem.Spec PyProof.Rows PySem.MeetsSeq
section
variable{X:Cx}
inductive rIndexR(K:Ad)(x:V)(vs:List V)(H:Hp)(Q:VK):Prop
 |mk (n:Nat) (l:Addr) (xs:List V) (y:V) (e:Addr->Bool) (j:Nat) (a:Addr) (_:x=.ref l) (_:vs=[y]) (_:H l=some (.lst xs)) (_:n<=6) (_:(∀v∈xs,∃a,v=.ref a/\EqD K H n v y (e a))) (_:xs[j]?=some (.ref a)) (_:e a=true) (_:(∀m b,m<j->xs[m]?=some (.ref b)->e b=false)) (_:Q (.int j) H)
theorem ZE8(K:Ad)(hu:X.A.units+8<cLine)(hk:X.K=K:=by rfl):NI X "list.index" (rIndexR K):=by
 subst hk;intro pins s σ H x vs v us Q I rx rv h;obtain⟨n,l,xs,y,e,j,a,rfl,rfl,hH,hn,he,hj,hy,Vi,q⟩:=h;cases rx;obtain⟨u,rfl,ru⟩:=rv.one;obtain⟨z,XT,m,r,hl,ho⟩:=I.lstM hH;have hsz:sizeLine=16777216:=TF
 have MG:j<xs.length:=(Xr.mp hj).1;have at_:∀(i:Nat)(hi:i<XT.toArray.size),∃b,xs[i]?=some (.ref b)/\XT.toArray[i]=.ref b:=λi hi=>by
  have Wh:i<XT.length:=by simpa using hi
  obtain⟨w,ew,MM⟩:=r.at Wh;obtain⟨b,rfl,_⟩:=he w (Xi ew);have e3:XT[i]=Value.ref b:=MM
  exact⟨b,ew,by simpa using e3⟩
 have ba:j<XT.toArray.size:=by rw[Yc];lia
 refine NM F.slot_list_index ⟨_,ho,Z⟩ F.entry_list_index (F.args_list_index_2 _ _) (SeqAt.list_indexAt l XT.toArray m none #[] u (λw=>match w with | .ref b=>e b|_=>false) j ba J ?_ ?_) ⟨ho,λw hw=>?_,?_⟩
 .obtain⟨b,e1,e2⟩:=at_ j ba;rw[hj]at e1;cases e1;rwa[e2]
 .intro i hi Um;obtain⟨b,e1,e2⟩:=at_ i hi;rw[e2];exact Vi i b Um e1
 .exact qf I (by show X.A.units+1+n<cLine;lia) ru r he w (by simpa using hw)
 .exact⟨.int j,H,I.tok _,⟨_,Z⟩,q⟩
end
end L2
namespace My
open PySem L2
theorem aZ{mg:Af}:FnOk P w K mg base Xo k f fd ps λ_ _ _ _=>False:=⟨λ_ _ _ _ h=>h.elim,λ_ _ _ _ _ _ _ _ _ _ _ _ _ h=>h.elim⟩
theorem aY{α:Type}[DecidableEq α]{x:α}:∀{l:List α},x∈l->∃j:Nat,l[j]?=some x/\∀i:Nat,i<j->l[i]?≠some x
 |y::l,h=>by
  by_cases c:y=x
  .exact⟨0,by rw[c];rfl,λi hi=>absurd hi<|Ws _⟩
  .obtain⟨j,h1,h2⟩:=aY ((Yg.mp h).resolve_left λe=>c e.symm);refine⟨j+1,h1,λi hi=>?_⟩
   match i,hi with
   |0,_=>exact λe=>c (Ye e)
   |i+1,hi=>exact h2 i J
theorem Zg8(hX:Bears (Wy H) xs L)(wI:SqT K H ta (IL U))(hU:U∈L):∃(e:Addr->Bool)(j:Nat)(a:Addr),(∀v∈xs,∃a,v=.ref a/\EqD K H 1 v (.ref ta) (e a))/\xs[j]?=some (.ref a)/\e a=true/\(∀m b,m<j->xs[m]?=some (.ref b)->e b=false)/\L[j]?=some U:=by
 have key:∀{c:Addr}{w:Ac},H c=some (.tup<|IL w)->(Wy H (.ref c) U↔w=U):=λ{c w} hc=>by
  constructor
  .rintro⟨c',e,h⟩;cases e;rw[hc]at h;injection h with h
   injection h with h;exact(List.map_inj_right λ_ _ h=>by injection h).mp h
  .rintro rfl;exact⟨c,Z,hc⟩
 obtain⟨j,h1,h2⟩:=aY hU;obtain⟨v,hv,c,rfl,hc⟩:=hX.2 j U h1;refine⟨λa=>@decide (Wy H (.ref a) U)<|Classical.propDecidable _,j,c,λv hv=>?_,hv,?_,λm b hm hb=>?_,h1⟩
 .obtain⟨i,hi⟩:=VX hv;obtain⟨w,hw,c',rfl,WI⟩:=hX.at hi;refine⟨c',Z,?_⟩;have e:@decide (Wy H (.ref c') U) (Classical.propDecidable _)=decide (w=U):=by rw[EX];exact key WI
  show EqD K H 1 (.ref c') (.ref ta) (@decide (Wy H (.ref c') U)<|Classical.propDecidable _);rw[e];exact qC (SqT.of WI) wI
 .exact @Yp _ (Classical.propDecidable _) ((key hc).mpr Z)
 .obtain⟨w,hw,c',e,WI⟩:=hX.at hb;cases e;exact @YR _ (Classical.propDecidable _) λh=>h2 m hm (by rw[hw,(key WI).mp h])
theorem Ow(g:Zz n ps)(h:RowR n ps d I O ld R):∀T∈R,With n ps I O T:=by
 induction h with
 |und hP _ _=>
  intro T hT;rcases Yg.mp hT with e|e
  .rw[e];exact hP.tr
  .obtain⟨z,hz,o,ho,rfl⟩:=VL.mp e;exact bj g hP.tr (Yh.mp<|(Oy hP.inc).mem_iff.mp hz).1 ho
 |div _ _ _ _ _ _ _ _ _ _ _ _ Bi kP=>
  intro T hT;rcases XE.mp hT with h|h
  .exact WA.mpr (.inl<|Bi T h)
  .exact WA.mpr (.inr<|kP T<|GL.mp h)
theorem kO{key:Int->Int}(h:Ry key ns ms):ms.Pairwise λa b=>key a<=key b:=by
 obtain⟨p,h1,h2,rfl⟩:=h;refine LI.mpr (h2.imp λ{a b} h=>?_);have h:key (ns.getD a 0)<key (ns.getD b 0)\/(key (ns.getD a 0)=key (ns.getD b 0)/\a<b):=h
 lia
theorem aX{k:Int->Int}:∀{l:Ac},(∀a∈l,k a=0\/k a=1)->l.Pairwise (λa b=>k a<=k b)->∃l1 l2,l=l1++l2/\(∀a∈l1,k a=0)/\∀a∈l2,k a=1
 |[],_,_=>⟨[],[],Z,λa h=>(by cases h),λa h=>(by cases h)⟩
 |a::l,h0,h=>by
  obtain⟨p1,p2⟩:=QP.mp h;rcases h0 a Xd with e|e
  .obtain⟨l1,l2,rfl,q1,q2⟩:=aX (λb hb=>h0 b<|Yf _ hb) p2;exact⟨a::l1,l2,Z,λb hb=>(Yg.mp hb).elim (λz=>z▸e) (q1 b),q2⟩
  .refine⟨[],a::l,Z,λa h=>(by cases h),λb hb=>?_⟩;rcases Yg.mp hb with z|z
   .rw[z];exact e
   .have:=p1 b z
    have:=h0 b (Yf _ z)
    lia
theorem Vf{z a:Int}:(PyProof.Rows.b2i (decide (some z=some a))=0↔a≠z)/\(PyProof.Rows.b2i (decide (some z=some a))=1↔a=z):=by
 by_cases c:a=z
 .subst c;simp[PyProof.Rows.b2i]
 .simp[PyProof.Rows.b2i,c,XI c]
theorem ZO8{ns ms:Ac}{z:Int}(h:Ry (λa=>PyProof.Rows.b2i (decide (some z=some a))) ns ms):∃l1 l2,ms=l1++l2/\(∀a∈l1,a≠z)/\∀a∈l2,a=z:=by
 obtain⟨l1,l2,e,h1,h2⟩:=aX (λa _=>by
  by_cases c:a=z
  .exact .inr (Vf.2.mpr c)
  .exact .inl<|Vf.1.mpr c) (kO h)
 exact⟨l1,l2,e,λa ha=>Vf.1.mp<|h1 a ha,λa ha=>Vf.2.mp<|h2 a ha⟩
theorem Qz{z:Int}(h:z∈WO n ps I O F):z∉F:=λq=>(Yr (Yh.mp h).2).1 (Yi _ q)
theorem wH{y z:Int}(h:y∈VM n ps I O F (some z)):y∉F/\y≠z:=by obtain⟨h1,h2⟩:=Yh.mp h;refine⟨Qz h1,λe=>Yr h2<|Yh.mpr ⟨h1,Yp ⟨z,Z,by rw[e]⟩⟩⟩
section
variable{n:Int}{ps:Aa}{d:Nat}{I O:Ac}{R:Ab}(g:Zz n ps)
include g
theorem Bh(h:RowR n ps d I O ld R):∀F,With n ps I O F->(∀U,With n ps I O U->HT.lexLt U F=false)->(∀z,ld=some z->z∉F)->R[0]?=some F:=by
 induction h with
 |und hP _ _=>
  intro F hF hm _;rw[Tg (hP.least F hF) (hm _ hP.tr)];rfl
 |div hP _ _ _ _ _ _ _ _ _ _ _ Bi _=>
  intro F hF hm hz;obtain⟨s1,s2⟩:=wO g hF hm (hz _ Z);have e:=Tg (hP.least F hF) (hm _ hP.tr)
  have:=Bi F s1 s2 λy' e'=>by cases e';rw[e];exact(wH (hP.some _ Z).1).1
  rw[Ys (Xr.mp this).1,this]
end
def Qy(T U:Ac):Prop:=(T.filter λy=>decide<|y∉U).length=1
theorem Bg{a:Int}(hT:T.Nodup)(ha:a∈T)(hU:a∉U)(h:∀v∈T,v∈U\/v=a):Qy T U:=by
 have p:(T.filter λy=>decide<|y∉U).Perm [a]:=(LM (hT.filter _) S).mpr λv=>by
  rw[Yh,YV,XG];constructor
  .exact λq=>(h v q.1).resolve_left q.2
  .rintro rfl;exact⟨ha,hU⟩
 exact p.length_eq
theorem kN(hT:Zf n ps T)(hU:Zf n ps U)(h:Qy T U):Qy U T:=(mh hU hT).trans h
def Adj{α:Type}(P:α->α->Prop)(l:List α):Prop:=∀i a b,l[i]?=some a->l[i+1]?=some b->P a b
theorem Adj.nil{α:Type}{P:α->α->Prop}:Adj P []:=λi a b h=>by simp at h
theorem Adj.one{α:Type}{P:α->α->Prop}{x:α}:Adj P [x]:=λi a b _ h=>by simp at h
theorem Adj.append{α:Type}{P:α->α->Prop}{l m:List α}(h1:Adj P l)(h2:Adj P m)(h:∀a b,l[l.length-1]?=some a->m[0]?=some b->P a b):Adj P (l++m):=λi a b ha hb=>by
 by_cases c:i+1<l.length
 .rw[Ys J]at ha hb;exact h1 i a b ha hb
 .rw[Yo J]at hb;by_cases c':i<l.length
  .rw[Ys c',show i=l.length-1 by lia]at ha;rw[show i+1-l.length=0 by omega]at hb;exact h a b ha hb
  .rw[Yo uD]at ha;rw[show i+1-l.length=i-l.length+1 by grind]at hb;exact h2 _ a b ha hb
theorem Adj.rev{α:Type}{P:α->α->Prop}{l:List α}(h:Adj P l)(hs:∀a∈l,∀b∈l,P a b->P b a):Adj P l.reverse:=λi a b ha hb=>by
 have hi:=(Xr.mp hb).1;rw[YS]at hi;rw[JZ uD]at ha hb
 have:=h (l.length-1-(i+1)) b a hb (by rwa[show l.length-1-(i+1)+1=l.length-1-i by grind])
 exact hs b (Xi hb) a (Xi ha) this
theorem aW{α:Type}(l:List α):l.reverse[l.reverse.length-1]?=l[0]?:=by
 cases l with
 |nil=>rfl
 |cons x l=>
  rw[YS,JZ S];simp
theorem aV{α:Type}(l:List α):l.reverse[0]?=l[l.length-1]?:=by
 cases l with
 |nil=>rfl
 |cons x l=>rw[JZ S];simp
theorem aS(hF:F.Nodup)(hz:z∉F):(xchT F o z).Nodup:=(Ku F o z).nodup_iff.mpr (YM.mpr ⟨hF.filter _,S,λa ha b hb e=>hz<|by rw[<-XG.mp hb,<-e];exact(Yh.mp ha).1⟩)
theorem aR{n:Int}{ps:Aa}{I F L:Ac}(hF:F.Nodup)(hL:L.Nodup)(kM:∀o∈L,o∈F):∀l asc,l.Nodup->(∀z∈l,z∉F)->(∀z∈l,WD n ps I F z=L)->Adj Qy (Vm n ps I F l asc)/\∀U,(Vm n ps I F l asc)[0]?=some U->∃o z,l[0]?=some z/\(if asc then L[0]? else L[L.length-1]?)=some o/\U=xchT F o z
 |[],asc,_,_,_=>⟨Adj.nil,λU h=>by simp[Vm]at h⟩
 |z::l,asc,hn,hz,hl=>by
  obtain⟨n1,n2⟩:=RQ.mp hn;obtain⟨OU,Sz⟩:=aR hF hL kM l (!asc) n2 (λv hv=>hz v<|Yf _ hv) λv hv=>hl v (Yf _ hv);have zF:=hz z Xd
  have e0:WD n ps I F z=L:=hl z Xd;have same:∀o∈L,∀o'∈L,o≠o'->Qy (xchT F o z) (xchT F o' z):=λo ho o' Vj ne=>Bg (a:=o') (aS hF zF) (XF.mpr<|.inl ⟨kM o' Vj,XI ne⟩) (λh=>by
   rcases XF.mp h with q|q
   .exact q.2 rfl
   .exact zF<|q▸kM o' Vj) λv hv=>by
   rcases XF.mp hv with q|q
   .by_cases c:v=o'
    .exact .inr c
    .exact .inl (XF.mpr<|.inl ⟨q.1,c⟩)
   .exact .inl (XF.mpr<|.inr q)
  have am:Adj Qy (L.map λo=>xchT F o z):=λi a b ha hb=>by
   rw[Yl]at ha hb;cases ea:L[i]? with
   |none=>rw[ea]at ha;cases ha
   |some o=>
    cases eb:L[i+1]? with
    |none=>rw[eb]at hb;cases hb
    |some o'=>
     rw[ea]at ha;rw[eb]at hb;cases ha;cases hb;refine same o (Xi ea) o' (Xi eb) λe=>?_;subst e
     have:=(yZ (Xr.mp ea).1 hL).mp (ea.trans eb.symm)
     lia
  have ar:Adj Qy (VG n ps I F asc z):=by
   unfold VG;rw[e0];cases asc with
   |true=>exact am
   |false=>
    refine am.rev λa ha b hb _=>?_;obtain⟨o,ho,rfl⟩:=Yz.mp ha;obtain⟨o',Vj,rfl⟩:=Yz.mp hb;by_cases c:o'=o
    .rename_i h;subst c;exact h
    .exact same o' Vj o ho c
  have hlen:(L.map λo=>xchT F o z).length=L.length:=Yb _;have last:∀U,(VG n ps I F asc z)[(VG n ps I F asc z).length-1]?=some U->∃o∈L,(if asc then L[L.length-1]? else L[0]?)=some o/\U=xchT F o z:=λU h=>by
   unfold VG at h;rw[e0]at h;cases asc with
   |true=>
    rw[if_pos Z,hlen,Yl]at h;cases e:L[L.length-1]? with
    |none=>rw[e]at h;cases h
    |some o=>rw[e]at h;cases h;exact⟨o,Xi e,Z,Z⟩
   |false=>
    rw[if_neg uB,aW,Yl]at h;cases e:L[0]? with
    |none=>rw[e]at h;cases h
    |some o=>rw[e]at h;cases h;exact⟨o,Xi e,Z,Z⟩
  have head:∀U,(VG n ps I F asc z)[0]?=some U->∃o,(if asc then L[0]? else L[L.length-1]?)=some o/\U=xchT F o z:=λU h=>by
   unfold VG at h;rw[e0]at h;cases asc with
   |true=>
    rw[if_pos Z,Yl]at h;cases e:L[0]? with
    |none=>rw[e]at h;cases h
    |some o=>rw[e]at h;cases h;exact⟨o,Z,Z⟩
   |false=>
    rw[if_neg uB,aV,hlen,Yl]at h;cases e:L[L.length-1]? with
    |none=>rw[e]at h;cases h
    |some o=>rw[e]at h;cases h;exact⟨o,Z,Z⟩
  refine⟨ar.append OU λa b ha hb=>?_,λU h=>?_⟩
  .obtain⟨o,ho,e1,rfl⟩:=last a ha;obtain⟨o',z',wN,e2,rfl⟩:=Sz b hb;have eo:o'=o:=by
    cases asc with
    |true=>exact(Ye<|e1.symm.trans e2).symm
    |false=>exact(Ye<|e1.symm.trans e2).symm
   subst eo;have zl:=Xi wN
   refine Bg (a:=z) (aS hF zF) (XF.mpr<|.inr Z) (λh=>?_) λv hv=>?_
   .rcases XF.mp h with q|q
    .exact zF q.1
    .exact n1 (q▸zl)
   .rcases XF.mp hv with q|q
    .exact .inl (XF.mpr<|.inl q)
    .exact .inr q
  .cases hh:VG n ps I F asc z with
   |cons x r=>
    have h':(VG n ps I F asc z)[0]?=some U:=by
     have:=h
     unfold Vm at this;rw[hh]at this ⊢;exact this
    obtain⟨o,e1,e2⟩:=head U h';exact⟨o,z,Z,e1,e2⟩
   |nil=>
    exfalso;have hL0:L=[]:=by
     have:(VG n ps I F asc z).length=L.length:=by unfold VG;rw[e0];cases asc<;>simp
     rw[hh]at this;exact YY.mp this.symm
    obtain⟨o,z',_,e2,_⟩:=Sz U (by have:=h;unfold Vm at this;rwa[hh]at this);rw[hL0]at e2;cases asc<;>simp at e2
section
variable{n:Int}{ps:Aa}{d:Nat}{I O F T:Ac}{R:Ab}{y z:Int}(g:Zz n ps)
include g
theorem kJ(hF:With n ps I O F)(hz:z∉F)(Vn:∀U,With n ps I O U->HT.lexLt U F=false)(hT:With n ps (I++[z]) O T)(Kt:∀U,With n ps (I++[z]) O U->HT.lexLt U T=false):∃o∈WD n ps I F z,T=xchT F o z/\∀o'∈WD n ps I F z,o'<=o:=by
 have half:=Ib g hF Vn hT Kt;have zT:z∈T:=hT.2.1 z S
 obtain⟨o,e1,e2⟩:=pQ g hT.1 hF.1 zT hz;have oT:o∉T:=((CW g hT.1).mp e1).2.1
 have oI:o∉I:=λh=>oT (hT.2.1 o<|Yd _ h);have zO:z∉O:=λh=>hT.2.2 z h zT
 have hM:=xE g hF.1 e2 (Ku F o z) (FK F o z);have eT:T=xchT F o z:=lB g hT.1 hM λv hv=>XF.mpr <| by
  rcases half v hv with q|q
  .exact .inl ⟨q,λe=>oT<|by rwa[<-e]⟩
  .exact .inr q
 refine⟨o,Yh.mpr ⟨Xa.mpr ⟨e2.1,e2.2.2⟩,Yp oI⟩,eT,λo' Vj=>Yx λno=>?_⟩;obtain⟨h3,h4⟩:=Yh.mp Vj;obtain⟨h5,h6⟩:=Xa.mp h3;have he:exg n ps F o' z:=⟨h5,λe=>hz (by rwa[e]),h6⟩
 have w:=Oz g hF he (Yr h4) zO (Ku F o' z) (FK F o' z);have w2:With n ps (I++[z]) O (xchT F o' z):=(WA (z:=z).mp w).resolve_left λq=>q.2.2 z S (XF.mpr<|.inr Z)
 have lt:HT.lexLt (xchT F o' z) T=true:=by
  refine(OH (XX.mp w.1.1).2 (XX.mp hT.1.1).2 (by have:=w.1.2.1;have:=hT.1.2.1;lia)).mpr ⟨o,XF.mpr<|.inl ⟨e2.1,λe=>no J⟩,oT,λs hs=>?_⟩;rw[eT,XF,XF];constructor
  .rintro(q|q)
   .exact .inl ⟨q.1,J⟩
   .exact .inr q
  .rintro(q|q)
   .exact .inl ⟨q.1,J⟩
   .exact .inr q
 rw[Kt _ w2]at lt;cases lt
theorem kI(Xm:∀v∈I,0<=v/\v<(ps.length:Int))(h:RowR n ps d I O (some z) R)(hF:With n ps I O F)(Vn:∀U,With n ps I O U->HT.lexLt U F=false)(hz:z∉F)(hT:With n ps (I++[z]) O T)(Kt:∀U,With n ps (I++[z]) O U->HT.lexLt U T=false):R[R.length-1]?=some T:=by
 cases h with
 |und hP hl hi=>
  rename_i F' inc;have eF:=Tg (hP.least F hF) (Vn _ hP.tr)
  subst eF;obtain⟨o,ho,eT,HZ⟩:=kJ g hF hz Vn hT Kt;have zo:z∈WO n ps I O F:=k0 g Xm (WA.mpr<|.inr hT) hF.2.1 (hT.2.1 z S) hz
  have za:z∈SX n ps I O F (some z):=Yh.mpr ⟨zo,Yp ⟨z,Z,Z⟩⟩;have hp:=Oy hP.inc
  have TR:inc.Nodup:=hp.nodup_iff.mpr (((((QM _).imp λh e=>by lia:(Wi ps.length).Nodup)).filter _).filter _);have zi:=hp.mem_iff.mpr za
  obtain⟨l1,l2,rfl,q1,q2⟩:=ZO8 hP.inc;have e2:l2=[z]:=by
   obtain⟨_,n2,_⟩:=YM.mp TR;have zl:z∈l2:=(XE.mp zi).resolve_left λh=>q1 z h rfl
   match l2,zl,n2,q2 with
   |[a],_,_,q=>rw[q a S]
   |a::b::r,_,nd,q=>
    have e1:=q a S;have e2:=q b S
    rw[e1,e2]at nd;simp at nd
  subst e2;have flag:(((l1++[z]).length%2 == 1) != (l1.length%2 == 1))=true:=by
   rw[Xu,Yu];rcases Nat.mod_two_eq_zero_or_one l1.length with c|c
   .rw[c,show(l1.length+1)%2=1 by lia];rfl
   .rw[c,show(l1.length+1)%2=0 by lia];rfl
  unfold Bs;rw[kZ,flag];unfold VG;rw[if_pos Z];have asc:(WD n ps I F z).Pairwise (·<·):=(((XX.mp hF.1.1).2).filter _).filter _
  have pos:=Fh ho;have lo:(WD n ps I F z)[(WD n ps I F z).length-1]?=some o:=by
   obtain⟨i,hi,e⟩:=Ri ho;by_cases c:i=(WD n ps I F z).length-1
   .rw[<-c,Xw hi,e]
   .have lt:=Ka.mp asc i ((WD n ps I F z).length-1) hi uD J;have le:=HZ _ (Ni<|show(WD n ps I F z).length-1<_ by omega)
    rw[e]at lt;lia
  show((F::Vm n ps I F l1 ((l1++[z]).length%2 == 1))++(WD n ps I F z).map λo=>xchT F o z)[_]?=_;rw[Yo (by simp;lia),Yl]
  have:((F::(Vm n ps I F l1 ((l1++[z]).length%2 == 1)++(WD n ps I F z).map λo=>xchT F o z)).length-1-(F::Vm n ps I F l1 ((l1++[z]).length%2 == 1)).length)=(WD n ps I F z).length-1:=by
   simp;lia
  rw[this,lo,eT];rfl
 |div hP a1 a2 a3 a4 a5 a6 a7 a8 a9 hA hB=>
  rename_i d F' inc y A uw;have eF:=Tg (hP.least F hF) (Vn _ hP.tr)
  subst eF;obtain⟨yF,yz⟩:=wH (hP.some _ Z).1;have hf:=Bh g hB T hT Kt λv e=>by cases e;exact λq=>(Ib g hF Vn hT Kt y q).elim yF yz
  have hb:=(Xr.mp hf).1;rw[<-aW]at hf;rw[Yo (by rw[Xu,YS];lia)];rw[YS]at hf;rwa[show(A++uw.reverse).length-1-A.length=uw.length-1 by rw[Xu,YS];lia]
theorem kH(Xm:∀v∈I,0<=v/\v<(ps.length:Int))(hF:With n ps I O F)(y0:0<=y/\y<(ps.length:Int))(z0:0<=z/\z<(ps.length:Int))(h:Uj (Xs n.toNat (XR ps I)) ps y=Uj (Xs n.toNat (XR ps I)) ps z):WD n ps I F y=WD n ps I F z:=by
 have key:∀a∈F,a∉I->(y∈US n ps F a↔z∈US n ps F a):=λa ha hn=>by
  rw[Vo g hF.1 y0.1 y0.2,Vo g hF.1 z0.1 z0.2];refine not_congr ?_;have up:∀{i j},Conn (XR ps I) i j->Conn (XR ps<|wo F a) i j:=λc=>c.mono (ZN λv hv=>Xg.mpr ⟨hF.2.1 v hv,λe=>hn<|by rwa[<-e]⟩)
  rcases br g Xm y0.1 y0.2 z0.1 z0.2 h with ⟨a,b⟩|⟨a,b⟩
  .exact⟨λc=>((up a).symm.trans c).trans (up b),λc=>((up a).trans c).trans (up b).symm⟩
  .exact⟨λc=>((up b).symm.trans c.symm).trans (up a),λc=>((up a).trans c.symm).trans (up b).symm⟩
 unfold WD Ti;rw[List.filter_filter,List.filter_filter];refine LH λa ha=>?_;by_cases c:a∈I
 .simp[c]
 .have:=key a ha c
  unfold US at this;simp[c,this]
theorem Bf(Xm:∀v∈I,0<=v/\v<(ps.length:Int))(hF:With n ps I O F)(Vn:∀U,With n ps I O U->HT.lexLt U F=false)(hz:z∈WO n ps I O F)(hy:y∈VM n ps I O F (some z)):y∈WO n ps I (O++[z]) F/\(With n ps (I++[z]) O F2->(∀U,With n ps (I++[z]) O U->HT.lexLt U F2=false)->y∈WO n ps (I++[z]) O F2):=by
 obtain⟨yF,yz⟩:=wH hy;obtain⟨yo,ya⟩:=Yh.mp hy;obtain⟨Ml,yI,yO,_,yc⟩:=(Vl g Xm).mp yo;obtain⟨Ko,zI,zO,zF,zc⟩:=(Vl g Xm).mp hz;refine⟨(Vl g Xm).mpr ⟨Ml,yI,λh=>(XE.mp h).elim yO λh=>yz<|XG.mp h,yF,yc⟩,λh2 h2m=>?_⟩;have TN:∀v∈I++[z],0<=v/\v<(ps.length:Int):=λv hv=>(XE.mp hv).elim (Xm v) λh=>by rwa[XG.mp h]
 refine(Vl g TN).mpr ⟨Ml,λh=>(XE.mp h).elim yI λh=>yz<|XG.mp h,yO,λh=>(Ib g hF Vn h2 h2m y h).elim yF yz,λc=>?_⟩;have e:XR ps (I++[z])=XR ps I++[((Zx ps z).1,(Zx ps z).2)]:=YG
 rw[e]at c;rcases bh c with h|h
 .exact yc h
 .exact Yr ya (Yh.mpr ⟨yo,Yp ⟨z,Z,Bm g Xm Ml Ko h⟩⟩)
end
theorem Zq8(g:Zz n ps)(h:RowR n ps d I O ld R):(∀v∈I,0<=v/\v<(ps.length:Int))->(∀F z,With n ps I O F->(∀U,With n ps I O U->HT.lexLt U F=false)->ld=some z->z∈WO n ps I O F)->Adj Qy R:=by
 induction h with
 |@und d I O F inc ld hP hl hi=>
  intro Xm Be;have hp:=Oy hP.inc
  have TR:inc.Nodup:=hp.nodup_iff.mpr (((((QM _).imp λh e=>by omega:(Wi ps.length).Nodup)).filter _).filter _);have kG:=hP.tr.1.1.nodup
  cases ld with
  |none=>
   have e:inc=[]:=by refine Fm.mpr λz hz=>?_;obtain⟨y,h,_⟩:=Yr (Yh.mp<|hp.mem_iff.mp hz).2;cases h
   subst e;exact Adj.one
  |some z=>
   have zo:=Be F z hP.tr hP.least rfl;obtain⟨Ko,_⟩:=(Vl g Xm).mp zo;obtain⟨c1,c2⟩:=aR (n:=n) (ps:=ps) (I:=I) (F:=F) (L:=WD n ps I F z) kG ((kG.filter _).filter _) (λo ho=>(Xa.mp (Yh.mp ho).1).1) inc (inc.length%2 == 1) TR (λv hv=>(hi v hv).1) (λv hv=>by obtain⟨y,e,h⟩:=Yr (Yh.mp<|hp.mem_iff.mp hv).2;cases e;exact kH g Xm hP.tr (hi v hv).2 Ko h)
   show Adj Qy ([F]++Vm n ps I F inc (inc.length%2 == 1));refine Adj.one.append c1 λa b ha hb=>?_;cases ha;obtain⟨o,v,hv,ho,rfl⟩:=c2 b hb;have vF:=(hi v<|Xi hv).1
   have oL:o∈WD n ps I F z:=by
    split at ho
    .exact Xi ho
    .exact Xi ho
   have oF:=(Xa.mp (Yh.mp oL).1).1;refine Bg (a:=o) kG oF (λh=>?_) λw hw=>?_
   .rcases XF.mp h with q|q
    .exact q.2 rfl
    .exact vF (q▸oF)
   .by_cases c:w=o
    .exact .inr c
    .exact .inl (XF.mpr<|.inl ⟨hw,c⟩)
 |@div d I O F inc z y A uw hP hIn TN VZ hO hW _ _ _ _ hA hB Bi kP=>
  intro Xm Be;have zo:=Be F z hP.tr hP.least rfl
  have zF:=Qz zo;have yu:=(hP.some y Z).1
  obtain⟨yF,yz⟩:=wH yu;obtain⟨s1,s2⟩:=wO g hP.tr hP.least zF;obtain⟨F2,_,_,Tt⟩:=Ks g (some y) hW;obtain⟨y1,y2⟩:=Bf (F2:=F2) g Xm hP.tr hP.least zo yu;have y2:=y2 Tt.tr Tt.least
  have aA:=Bi Xm λF' v h1 h2 e=>by cases e;rwa[Tg (s2 F' h1) (h2 F s1)]
  have aB:=kP TN λF' v h1 h2 e=>by cases e;rwa[Tg (Tt.least F' h1) (h2 F2 Tt.tr)]
  refine aA.append (aB.rev λa ha b hb q=>kN (Ow g hB a ha).1 (Ow g hB b hb).1 q) λa b ha hb=>?_;rw[aV]at hb;obtain⟨G,_,_,hG⟩:=Ks g none (wL g Xm hP.tr (Yh.mp yu).1);have zG:z∉G:=λh=>(Ib g hP.tr hP.least hG.tr hG.least z h).elim zF (XI yz)
  obtain⟨g1,g2⟩:=wO g hG.tr hG.least zG;have ea:=kI g Xm hA s1 s2 yF g1 g2
  rw[<-Ye (ea.symm.trans ha)];obtain⟨T2,_,_,h2⟩:=Ks g none (wL g TN Tt.tr y2);have eb:=kI g TN hB Tt.tr Tt.least (Qz y2) h2.tr h2.least
  rw[<-Ye (eb.symm.trans hb)];have sw:∀U,With n ps (I++[z]++[y]) O U↔With n ps (I++[y]++[z]) O U:=λU=>by
   unfold With;refine EW λ_=>and_congr_left λ_=>⟨λh v hv=>h v ?_,λh v hv=>h v ?_⟩
   all_goals
    simp only[XE,XG]at hv ⊢;rcases hv with (q|q)|q
    .exact .inl (.inl q)
    .exact .inr q
    .exact .inl (.inr q)
  have hh:=Ib g hG.tr hG.least ((sw T2).mp h2.tr) λU hU=>h2.least U ((sw U).mpr hU);exact kN h2.tr.1 g1.1 (Bg (a:=z) h2.tr.1.1.nodup (h2.tr.2.1 z S) zG λv hv=>hh v hv)
theorem aQ{l:Ac}{ld Km:Option Int}(h1:ld=none↔l=[])(h2:∀y,ld=some y->y∈l/\∀z∈l,y<=z)(FR:Km=none↔l=[])(kW:∀y,Km=some y->y∈l/\∀z∈l,y<=z):ld=Km:=by
 cases ld with
 |none=>exact(FR.mpr<|h1.mp Z).symm
 |some y=>
  cases Km with
  |none=>exact absurd (h1.mpr<|FR.mp Z) S
  |some y'=>
   obtain⟨a1,a2⟩:=h2 y rfl;obtain⟨b1,b2⟩:=kW y' rfl
   have:=a2 y' b1
   have:=b2 y a1
   rw[show y=y' by lia]
theorem Uh:With n ps [] [] T↔Zf n ps T:=⟨λh=>h.1,λh=>⟨h,λz q=>(by cases q),λz q=>(by cases q)⟩⟩
theorem ZL6{F L:Ac}(g:Zz n ps)(hR:RowW n ps R)(hF:Zf n ps F)(Vn:∀U,Zf n ps U->HT.lexLt U F=false):R[0]?=some F/\Adj Qy R/\(1<R.length->R[R.length-1]?=some L->Qy L F):=by
 have FJ:=Uh.mpr hF;have Mj:∀U,With n ps [] [] U->HT.lexLt U F=false:=λU hU=>Vn U hU.1
 have Xm:∀v∈([]:Ac),0<=v/\v<(ps.length:Int):=λv h=>by cases h
 obtain⟨ld,F',inc,fu,hP,h1,h2,Kl,_⟩:=id hR;have eF:F'=F:=Tg (Vn F' hP.tr.1) (hP.least F FJ)
 subst eF;refine⟨Bh g Kl F' FJ Mj λz e=>Qz (h2 z e).1,Zq8 g Kl Xm λF2 z a b e=>?_,λhl hL=>?_⟩
 .rw[Tg (Mj F2 a) (b F' FJ)];exact(h2 z e).1
 .cases ld with
  |none=>
   exfalso;have eo:=h1.mp rfl
   cases Kl with
   |und kF _ _=>
    obtain⟨rfl,rfl,rfl⟩:=hP.uniq kF;have e:inc=[]:=Fm.mpr λz hz=>by
     have:=(Yh.mp<|(Oy hP.inc).mem_iff.mp hz).1
     rw[eo]at this;cases this
    subst e;exact absurd hl (by show ¬1<1;decide)
  |some z=>
   have zo:=(h2 z Z).1;obtain⟨T2,_,_,FI⟩:=Ks g none (wL g Xm FJ zo);rw[kI g Xm Kl FJ Mj (Qz zo) FI.tr FI.least]at hL;obtain rfl:=Ye hL;exact Bg (a:=z) FI.tr.1.1.nodup (FI.tr.2.1 z S) (Qz zo) λv hv=>Ib g FJ Mj FI.tr FI.least v hv
end My
namespace L2
open PySem PySem.Spec PyProof.Rows
theorem WC{N P:List Str}{sc:Scope}(h:sc.kind=.function/\sc.isCoroutine=false/\sc.isGenerator=false/\N.Nodup/\N.take P.length=P/\(∀x∈P,sc.names.lookup x=some .local\/sc.names.lookup x=some .cell)/\∀y∈sc.names,y.2≠.free):FnScope N P sc:=⟨h.1,h.2.1,h.2.2.1,h.2.2.2.1,h.2.2.2.2.1,h.2.2.2.2.2.1,h.2.2.2.2.2.2⟩
structure DfA(K:Ad)(mg:Af)(x:Str)(st:Stmt)(f:Addr)(fd:FuncData)(ps:List Str):Prop where
 fn:Fun K x x st f fd
 bi:Binds K fd ps []
 mm:mg x=some (.ref f)
theorem XA{X:Cx}{CX:Qn}{k m:Nat}{f:Addr}{fd:FuncData}{ps:List Str}{sp:Sp}{x:Str}{st:Stmt}{e:Expr}{es:List Expr}{t:TA}{p pos:Pos}{E:XK}(F:FnOk X.prog X.w X.K X.mg X.base CX k f fd ps sp)(hr:Room m X.A)(d:DfA X.K X.mg x st f fd ps)(hx:Gr CX X E)(ha:PA X (e::es) t)(hk:k<=m:=by decide)(hg:Gl X x:=by exact Z)(Sl:(x == ("__debug__":Str))=false:=by decide)(he:starEach (e::es) X.env=(false,eval e X.env)::starEach es X.env:=by rfl)(UL:(backTo pos<|starEach es X.env).any (·.1)=false:=by rfl):PE X (.Call (.Name x p) (e::es) [] pos) (DV sp [] E t):=
 QY F (hr.mono hk) hg d.mm d.fn.kp d.bi .nil hx ha Sl he UL
def wG(N P:List Str)(sc:Scope):Prop:=sc.kind=.function/\sc.isCoroutine=false/\sc.isGenerator=false/\N.Nodup/\N.take P.length=P/\(∀x∈P,sc.names.lookup x=some .local\/sc.names.lookup x=some .cell)/\∀y∈sc.names,y.2≠.free
instance (N P:List Str) (sc:Scope):Decidable (wG N P sc):=by unfold wG;infer_instance
section
variable{P:Program}{w:World}{K:Ad}{mg:Af}{base:Heap}{x:Str}{st:Stmt}{f:Addr}{fd:FuncData}{ps:List Str}{k:Nat}{sp:Sp}
abbrev Xf(P:Program)(w:World)(base:Heap)(CX:Qn)(_:DfA K mg x st f fd ps)(k:Nat)(sp:Sp):Prop:=FnOk P w K mg base CX k f fd ps sp
theorem DfA.okI(q:DfA K mg x st f fd ps)(N:List Str)(uz:wG N ps (Xt st))
  (VV:∀XC A outer s H vs Q E,Room k (A.deeper<|envOfC x (Xt st) s.heap.objs.size f XC)->sp vs H Q E->
   ∃t,PSs (Ua Xo P w K mg base N x (Xt st) f XC A outer s H E).nox (QU st) t/\t {nx:=λ_ H'=>Q .non H',rt:=Q} (start N vs) H) (len:∀vs H Q E,sp vs H Q E->vs.length=ps.length:=by intro _ _ _ _ h;cases h;subst_vars;rfl):Xf P w base Xo q (k+1) sp:=q.fn.ok (WC uz) len VV
theorem DfA.ok(q:DfA K mg x st f fd ps)(N:List Str)(uz:wG N ps (Xt st))(len:∀vs H Q E,sp vs H Q E->vs.length=ps.length)
  (VV:∀XC A outer s H vs Q E,Room k (A.deeper<|envOfC x (Xt st) s.heap.objs.size f XC)->sp vs H Q E->
   ∃t,PSs (Ua Xo P w K mg base N x (Xt st) f XC A outer s H E).nox (QU st) t/\t {nx:=λ_ H'=>Q .non H',rt:=Q} (start N vs) H):Xf P w base Xo q (k+1) sp:=q.fn.ok (WC uz) len VV
end
end L2
namespace My
open PySem L2
def FQ(K:Ad)(mg:Af)(x:Str)(st:Stmt)(ps:List Str):Prop:=∃f fd,DfA K mg x st f fd ps
theorem Bc{K:Ad}{h:Heap}{mg:Af}{x:Str}{st:Stmt}{ps:List Str}{f:Addr}{oc:Value}{od an:Option Addr}{Tz:Array (Option Value)}{kV doc pm XC ct:Value}(X:K.In h)(G:h.Ns mainGlobals mg)
  (a:PySem.W.nsIn K mainGlobals x=some (some<|.ref f))(l:K.lookup f=some ⟨oc,od,.func<|PySem.W.fnOf x x (Le st) (QU st) (Xt st) .none kV doc pm an XC ct,Tz⟩)(c:PySem.W.codeIn K XC x=true)(k:PySem.W.keepIn K (.ref f)=true)
  (b:∀kV doc pm an XC ct us,us.length=ps.length->bindArgs (PySem.W.fnOf x x (Le st) (QU st) (Xt st) .none kV doc pm an XC ct) ⟨us,[]⟩=pure (ps.zip us)):FQ K mg x st ps:=
 ⟨f,_,MK l c k,(MK l c k).binds b,EU X G a⟩
def kE:List Str:=["count","cheapest"]
def kD:List Str:=["tree","row","rank"]
def kC:List Str:=["number","place","next","share"]
def aP(w:Str):Bool:=QD w.cps.toList
def Kk(x0:Str)(r:List Str):Prop:=(x0∈kE/\r.length+1=1)\/(x0∈kD/\r.length+1=2/\r.all aP=true)\/(x0∈kC/\1<r.length+1/\(r=[("-":Str)]\/r.all aP=true))
instance:Decidable (Kk x0 r):=by unfold Kk;infer_instance
end My
namespace HT
open PySem PyProof.Rows
theorem kB(A:Around)(s:Shared)(a:Int)(t:Tok)(c:Int)(u:Tok)(prog:Program)(w:World)(E:Ae)(Q:Ae)(h:Q (.bool (decide (c<a))) s):
  wpAny (model prog w) A (richCompare .Gt (.int a t)<|.int c u) Q E s:=
 (PyProof.Rows.gt_int h:wpAny (model prog w) A (compareOp .Gt (.int a t)<|.int c u) Q E s)
section
open PySem.SeqAt
open PySem.AutoSeq1 (wpAny_loadPart')
open PySem.MeetsSeq PySem.MeetsSeq2 PySem.MeetsSeq3
theorem ZP3(l b:Addr)(items Ww:Array Value)(n n2:Nat)(dd Li:Option Addr)(sl Lh:Array (Option Value))(ns ms:Ac)(hi:IntsAre items.toList ns)(hj:IntsAre Ww.toList ms):
  Meets (Builtin.«tuple.__gt__» ⟨[.ref l,.ref b],[]⟩)
   (λ_ R s=>s.heap.get? l=some {cls:=.type "tuple",dict:=dd,data:=.seq items n,slots:=sl}/\s.heap.get? b=some {cls:=.type "tuple",dict:=Li,data:=.seq Ww n2,slots:=Lh}/\
    R (.ok<|.ret<|.bool<|lexLt ms ns) s):=
 .of_wp λprog w A R s h=>by
  obtain⟨hp,g,d,tk,os⟩:=s;obtain⟨hl,hb,h⟩:=h;have f2:=AutoSeq1.sub_tuple_tuple
  have z1:items.size=ns.length:=by rw[<-hi.length];simp
  have z2:Ww.size=ms.length:=by rw[<-hj.length];simp
  wp_walk using wpAny_loadPart' hl,wpAny_loadPart' hb,wpAny_forIn_list _ (λrest b s'=>b.1=none/\s'=⟨hp,g,d,tk,os⟩/\∃vs ws FH Kr,rest=vs.zip ws/\
   IntsAre vs FH/\IntsAre ws Kr/\FH.length+Ww.size=Kr.length+items.size/\R (.ok<|.ret<|.bool<|lexLt Kr FH) ⟨hp,g,d,tk,os⟩) _
  case turn=>
   rintro⟨y,x⟩ rest b s' ⟨TZ,rfl,vs,ws,FH,Kr,hz,wF,ky,hlen,hR⟩;cases wF with
   |nil=>rw[List.zip_nil_left]at hz;cases hz
   |cons a t kx=>
    cases ky with
    |nil=>rw[List.zip_nil_right]at hz;cases hz
    |cons c u ku=>
     rw[List.zip_cons_cons]at hz;injection hz with cC Bb
     injection cC with hy hx;subst hy hx;rw[Xl]at hR;simp only[Yt]at hlen;obtain⟨e,he,Ba⟩:=sS A.in1 ⟨hp,g,d,tk,os⟩ a t c u;refine XU (he prog w _ _ ?_);cases e with
     |true=>
      rw[if_pos (Ba.mp Z).symm]at hR
      wp_walk
      exact⟨Z,Z,_,_,_,_,Bb,kx,ku,J,hR⟩
     |false=>
      rw[if_neg λq=>absurd (Ba.mpr q.symm) Yy]at hR;have hri:=kB A.in1 ⟨hp,g,d,tk,os⟩ a t c u prog w
      wp_walk using hri
      exact⟨_,Z,by simpa using hR⟩
  case fin=>
   rintro⟨b1,b2⟩ s' ⟨TZ,rfl,vs,ws,FH,Kr,hz,wF,ky,hlen,hR⟩;simp only at TZ;subst TZ;have hv:lexLt Kr FH=decide (Ww.size<items.size):=by
    cases ky with
    |nil=>
     cases wF with
     |nil=>
      simp only[Nf]at hlen;exact(YR J).symm
     |cons a t hv=>
      simp only[Nf,Yt]at hlen;exact(Yp J).symm
    |cons c u hw=>
     cases wF with
     |nil=>
      simp only[Nf,Yt]at hlen;exact(YR J).symm
     |cons a t hv=>
      rw[List.zip_cons_cons]at hz;cases hz
   rw[hv]at hR
   wp_walk
   exact⟨_,Z,by simpa[Builtin.Tuple.tupleCompareSizes] using hR⟩
  case h=>
   exact⟨Z,Z,items.toList,Ww.toList,ns,ms,Z,hi,hj,J,h⟩
end
section
variable{prog:Program}{w:World}{A:Around}{E:Ae}{s:Shared}
theorem RZ{Q:Ae}(hl:IsTup s.heap l items)(hb:IsTup s.heap b Ww)(hi:IntsAre items.toList ns)(hj:IntsAre Ww.toList ms)
  (hu:A.units<cLine)(h:Q (.bool<|lexLt ms ns) s):wpAny (model prog w) A (compareOp .Gt (.ref l)<|.ref b) Q E s:=by
 obtain⟨⟨cls,dd,data,sl⟩,ho,hc,n,hd⟩:=id hl;obtain⟨⟨DR,Li,data2,Lh⟩,UK,Wc,n2,hd2⟩:=id hb;simp only at hc hd Wc hd2;subst hc hd Wc hd2;exact richCompare_meets_room (op:=.Gt) ⟨_,ho,Z⟩ ⟨_,UK,Z⟩ PySem.F.slot_tuple_gt PySem.F.entry_tuple_gt (PySem.F.args_tuple_gt_2 _ _) (ZP3 l b items Ww n n2 dd Li sl Lh ns ms hi hj)
  ⟨ho,UK,show Value.bool (lexLt ms ns)≠Value.notImplemented/\Q (.bool<|lexLt ms ns) s from⟨(λx=>nomatch x),h⟩⟩ hu
end
end HT
namespace L2
open PySem PySem.Spec PyProof.Rows
inductive rGtT(K:Ad)(x:V)(y:V)(H:Hp)(Q:VK):Prop
 |mk (a b l m:_) (_:x=.ref a) (_:y=.ref b) (_:SqT K H a (l.map V.int)) (_:SqT K H b (m.map V.int)) (_:Q (.bl<|HT.lexLt m l) H)
section
variable{X:Cx}
theorem ks(K:Ad)(hu:X.A.units+8<cLine)(hk:X.K=K:=by rfl):WH X (compareOp .Gt) (rGtT K):=by subst hk;intro pins s σ H x y v u Q I rx ry h;obtain⟨a,b,l,m,rfl,rfl,hA,hB,q⟩:=h;cases rx;cases ry;obtain⟨XT,r1,p1,_⟩:=I.tuple hA;obtain⟨VT,r2,p2,_⟩:=I.tuple hB;exact HT.RZ p1 p2 (by simpa using ZA r1) (by simpa using ZA r2) J ⟨.bl _,H,I,Z,q⟩
end
end L2
namespace My
open PySem L2
def top(i:Nat):Stmt:=PySem.Challenge.pw_spanrow_k92_whole_far_numbers.main.body.getD i (.Pass ⟨0,0,0,0⟩)
abbrev sZ8:Stmt:=fe (top 19) 0
abbrev sZB:Stmt:=fe (top 55) 0
abbrev sZ41:Stmt:=top 87
set_option genInjectivity false in
structure Adr where
 (aZ0 aZ1 aZ2 aZ3 aZ4 aZ5 aZ6 aZ7 aZ8 aZ9 aZa aZb aZc aZd aZe aZf aZg aZh aZi aZj aZk aZl aZm aZn aZo aZp aZq aZr aZs aZt aZu aZv aZw aZx aZy aZz aZA aZB aZC aZD aZE aZF aZG aZH aZI aZJ aZK aZL aZM aZN aZO aZP aZQ aZR aZS aZT aZU aZV aZW aZX aZY aZZ aZ01 aZ11 aZ21 aZ31 aZ41 A_Web A_Part:Addr)
 (dZ0 dZ1 dZ2 dZ3 dZ4 dZ5 dZ6 dZ7 dZ8 dZ9 dZa dZb dZc dZd dZe dZf dZg dZh dZi dZj dZk dZl dZm dZn dZo dZp dZq dZr dZs dZt dZu dZv dZw dZx dZy dZz dZA dZB dZC dZD dZE dZF dZG dZH dZI dZJ dZK dZL dZM dZN dZO dZP dZQ dZR dZS dZT dZU dZV dZW dZX dZY dZZ dZ01 dZ11 dZ21 dZ31 dZ41:FuncData)
structure Txt(K:Ad)(mg:Af)(t:Adr):Prop where
 qZ0:DfA K mg "refuse_not_square" (top 10) t.aZ0 t.dZ0 ["table"]
 qZ1:DfA K mg "row_taken_off" (top 11) t.aZ1 t.dZ1 ["row","pivot","last"]
 qZ2:DfA K mg "first_with_some" (top 12) t.aZ2 t.dZ2 ["rows"]
 qZ3:DfA K mg "determinant" (top 13) t.aZ3 t.dZ3 ["table"]
 qZ4:DfA K mg "row_without" (top 14) t.aZ4 t.dZ4 ["row","number"]
 qZ5:DfA K mg "table_without" (top 15) t.aZ5 t.dZ5 ["table","number"]
 qZ6:DfA K mg "is_tie" (top 21) t.aZ6 t.dZ6 ["web","number"]
 qZ7:DfA K mg "refuse_bad_web" (top 20) t.aZ7 t.dZ7 ["places","ties"]
 fZ8:Fun K "__init__" "Web.__init__" sZ8 t.aZ8 t.dZ8
 bZ8:Binds K t.dZ8 ["self","places","ties"] []
 qZ9:DfA K mg "all_ties" (top 22) t.aZ9 t.dZ9 ["web"]
 qZa:DfA K mg "ties_beside" (top 23) t.aZa t.dZa ["web","ties"]
 qZb:DfA K mg "ties_without" (top 24) t.aZb t.dZb ["ties","left_out"]
 qZc:DfA K mg "have_common" (top 25) t.aZc t.dZc ["one","other"]
 qZd:DfA K mg "is_set" (top 26) t.aZd t.dZd ["web","ties"]
 qZe:DfA K mg "made_set" (top 27) t.aZe t.dZe ["web","ties"]
 qZf:DfA K mg "merged_marks" (top 28) t.aZf t.dZf ["web","marks","ties"]
 qZg:DfA K mg "piece_marks" (top 29) t.aZg t.dZg ["web","ties"]
 qZh:DfA K mg "pieces_of" (top 30) t.aZh t.dZh ["web","ties"]
 qZi:DfA K mg "is_joined" (top 31) t.aZi t.dZi ["web","ties"]
 qZj:DfA K mg "weighted_table" (top 33) t.aZj t.dZj ["web","weights"]
 qZk:DfA K mg "pull_table" (top 34) t.aZk t.dZk ["web"]
 qZl:DfA K mg "tree_count" (top 35) t.aZl t.dZl ["web"]
 qZm:DfA K mg "part_count" (top 36) t.aZm t.dZm ["web","inside","outside"]
 qZn:DfA K mg "count_with" (top 37) t.aZn t.dZn ["web","inside","outside"]
 qZo:DfA K mg "is_tree" (top 39) t.aZo t.dZo ["web","ties"]
 qZp:DfA K mg "refuse_no_tree" (top 40) t.aZp t.dZp ["web","tree"]
 qZq:DfA K mg "grown_tree" (top 41) t.aZq t.dZq ["web","inside","order"]
 qZr:DfA K mg "tree_cut" (top 42) t.aZr t.dZr ["web","tree","tie"]
 qZs:DfA K mg "ring_of" (top 43) t.aZs t.dZs ["web","tree","tie"]
 qZt:DfA K mg "least_in" (top 45) t.aZt t.dZt ["web","inside","outside"]
 qZu:DfA K mg "tree_at" (top 46) t.aZu t.dZu ["web","number"]
 qZv:DfA K mg "lesser_ties" (top 47) t.aZv t.dZv ["ties","bound"]
 qZw:DfA K mg "number_of" (top 48) t.aZw t.dZw ["web","tree"]
 qZx:DfA K mg "tree_behind" (top 49) t.aZx t.dZx ["web","tree"]
 qZy:DfA K mg "next_tree" (top 50) t.aZy t.dZy ["web","tree"]
 qZz:DfA K mg "end_pieces" (top 53) t.aZz t.dZz ["web","marks","tie"]
 qZA:DfA K mg "open_ties" (top 54) t.aZA t.dZA ["web","marks","gone"]
 fZB:Fun K "__init__" "Part.__init__" sZB t.aZB t.dZB
 bZB:Binds K t.dZB ["self","web","kept","shut","lead"] []
 qZC:DfA K mg "whole_part" (top 56) t.aZC t.dZC ["web"]
 qZD:DfA K mg "half_without" (top 57) t.aZD t.dZD ["part"]
 qZE:DfA K mg "half_with" (top 58) t.aZE t.dZE ["part"]
 qZF:DfA K mg "part_size" (top 59) t.aZF t.dZF ["part"]
 qZG:DfA K mg "trees_with_tie" (top 60) t.aZG t.dZG ["part","into"]
 qZH:DfA K mg "undivided_row" (top 61) t.aZH t.dZH ["part"]
 qZI:DfA K mg "trees_between" (top 62) t.aZI t.dZI ["part","size","start","stop"]
 qZJ:DfA K mg "refuse_below_nought" (top 51) t.aZJ t.dZJ ["number"]
 qZK:DfA K mg "row_from" (top 64) t.aZK t.dZK ["web","number","most"]
 qZL:DfA K mg "row_at" (top 65) t.aZL t.dZL ["web","number"]
 qZM:DfA K mg "number_in" (top 63) t.aZM t.dZM ["part","size","tree"]
 qZN:DfA K mg "row_number" (top 66) t.aZN t.dZN ["web","tree"]
 qZO:DfA K mg "row_next" (top 67) t.aZO t.dZO ["web","tree"]
 qZP:DfA K mg "is_number" (top 71) t.aZP t.dZP ["word"]
 qZQ:DfA K mg "read_number" (top 72) t.aZQ t.dZQ ["word"]
 qZR:DfA K mg "read_line" (top 73) t.aZR t.dZR ["line","name","many"]
 qZS:DfA K mg "read_web" (top 74) t.aZS t.dZS ["text"]
 qZT:DfA K mg "_law_cell" (top 76) t.aZT t.dZT ["script","k"]
 qZU:DfA K mg "_law_mixed" (top 77) t.aZU t.dZU ["cell","k"]
 qZV:DfA K mg "_law_draws" (top 78) t.aZV t.dZV ["script","start","count","way"]
 qZW:DfA K mg "_law_ties" (top 79) t.aZW t.dZW ["draws","places","hang"]
 qZX:DfA K mg "_law_web" (top 80) t.aZX t.dZX ["script","most","count"]
 qZY:DfA K mg "_law_lengths" (top 83) t.aZY t.dZY ["script","count"]
 qZZ:DfA K mg "_law_text" (top 84) t.aZZ t.dZZ ["places","ties","lengths"]
 qZ01:DfA K mg "_law_marks" (top 81) t.aZ01 t.dZ01 ["places","ties","some"]
 qZ11:DfA K mg "_law_tree_by" (top 82) t.aZ11 t.dZ11 ["places","ties","cell"]
 qZ21:DfA K mg "_law_less" (top 85) t.aZ21 t.dZ21 ["web","tree","count"]
 qZ31:DfA K mg "_law_number_good" (top 86) t.aZ31 t.dZ31 ["web","many","number","count"]
 qZ41:DfA K mg "law" sZ41 t.aZ41 t.dZ41 ["script"]
 c_Web:mg "Web"=some (.ref t.A_Web)
 cl_Web:Cls K t.A_Web
 k_Web:Mk K t.A_Web t.aZ8
 n_Web_places:NoAttr K t.A_Web "places"
 n_Web_ties:NoAttr K t.A_Web "ties"
 c_Part:mg "Part"=some (.ref t.A_Part)
 cl_Part:Cls K t.A_Part
 k_Part:Mk K t.A_Part t.aZB
 n_Part_web:NoAttr K t.A_Part "web"
 n_Part_kept:NoAttr K t.A_Part "kept"
 n_Part_shut:NoAttr K t.A_Part "shut"
 n_Part_lead:NoAttr K t.A_Part "lead"
 n_Part_least:NoAttr K t.A_Part "least"
 n_Part_incoming:NoAttr K t.A_Part "incoming"
 n_Part_further:NoAttr K t.A_Part "further"
 g_MOST_PLACES:∃tk,mg "MOST_PLACES"=some (.int 14 tk)
 g_MOST_TIES:∃tk,mg "MOST_TIES"=some (.int 30 tk)
 g_FIGURES:∃tk,mg "FIGURES"=some (.str "0123456789" tk)
 g_MOST_FIGURES:∃tk,mg "MOST_FIGURES"=some (.int 60 tk)
 n_any:mg "any"=none
 n_enumerate:mg "enumerate"=none
 n_int:mg "int"=none
 n_len:mg "len"=none
 n_list:mg "list"=none
 n_max:mg "max"=none
 n_min:mg "min"=none
 n_range:mg "range"=none
 n_reversed:mg "reversed"=none
 n_set:mg "set"=none
 n_sorted:mg "sorted"=none
 n_str:mg "str"=none
 n_sum:mg "sum"=none
 n_tuple:mg "tuple"=none
 n_zip:mg "zip"=none
end My
namespace My
open PySem L2 PyProof.Rows
set_option maxHeartbeats 4000000
section
variable{P:Program}{w:World}{K:Ad}{mg:Af}{base:Heap}{t:Adr}
inductive spZ0(K:Ad)(vs:List V)(H:Hp)(Q:VK)(_:XK):Prop
 |mk (a kd xs L:_) (_:vs=[.ref a]) (_:SqK kd K H a xs) (_:Bears (Cw K H) xs L) (_:((∀l∈L,l.length=L.length)->Q .non H)) (_:(¬(∀l∈L,l.length=L.length)->False))
theorem kq:FnScope ["table","row"] ["table"] (Xt (top 10)):=WC B
theorem ko(T:Txt K mg t):Xf P w base Xo T.qZ0 1 (spZ0 K):=by
 refine T.qZ0.okI ["table","row"] B λXC A outer s H vs Q E hr h=>?_
 .obtain⟨a,kd,xs,L,rfl,hS,hB,q,qe⟩:=h;refine⟨_,(XN (Va YQ Z (Ny K<|pv 0) (Ze (i:=1) kq.nd Z<|Or.inl Z)
   (XN (Xx (Zh Ub (Zd (Zk K) uG T.n_len Boot.«len»<|XY (pv 1) XW) (Zd (Zk K) uG T.n_len Boot.«len»<|XY (pv 0) XW)<|Zo _)
   (XN ZX)
   Zm)))),?_⟩
  have Kj:=hB.1;refine⟨_,Z,a,Z,Du (K:=K) (k:=kd) (a:=a) (xs:=xs) (λi σ H2=>∃v1,σ=[some (.ref a),v1]/\H2=H/\∀l∈L.take i,l.length=L.length) ⟨none,Z,Z,λl h=>(by cases h)⟩ (λi σ H2 _ zz=>by obtain⟨_,_,e,_⟩:=zz;exact e▸hS) ?_ ?_⟩
  .rintro i v σ H2 hi ⟨v1,rfl,rfl,Wg⟩;obtain⟨l,hl,r,k,rfl,hr⟩:=hB.at hi;refine nm ?_;refine⟨_,Z,r,_,Z,hr.or,_,Z,a,xs,Z,hS.or,Z,_,Z,?_⟩;rw[XD,Zy];refine WK (λe=>?_) (λe=>?_)
   .refine⟨_,Z,Z,λm hm=>?_⟩;rw[YJ,hl]at hm;rcases XE.mp hm with h|h
    .exact Wg m h
    .have Lb:m=l:=by simpa using h
     rw[Lb];lia
   .exact qe λh=>e (by rw[h l (Xi hl),Kj])
  .rintro σ H2 ⟨v1,rfl,rfl,Wg⟩;rw[Kj,YD]at Wg;exact q Wg
inductive spZ1(K:Ad)(vs:List V)(H:Hp)(Q:VK)(_:XK):Prop
 |mk (r p x y last l q:_) (_:vs=[.ref r,.ref p,.int last]) (_:SqL K H r (IL<|x::l)) (_:SqL K H p (IL<|y::q)) (_:l.length=q.length) (_:l.length<=1000) (_:last≠0) (_:last.natAbs<2^9000) (_:(∀z∈x::l,z.natAbs<2^9000)) (_:(∀z∈y::q,z.natAbs<2^9000)) (_:∀c H',Same H H'->H c=none->H' c=some (.lst<|IL<|OM y q last<|x::l)->Q (.ref c) H')
theorem km(T:Txt K mg t):Xf P w base Xo T.qZ1 1 (spZ1 K):=by
 refine T.qZ1.okI ["row","pivot","last"] B λXC A outer s H vs Q E hr h=>?_
 .obtain⟨r,p,x,y,last,l,q',rfl,hR,hP,aO,hl,l0,l1,hx,hy,q⟩:=h;refine⟨_,(XN<|Zi<|WG Z (sc0:=Xt<|top 11) (N0:=["row","pivot","last"]) (N':=["own","other","pivot","row","last"]) (o:=2) (fr:=[1,0,2]) ⟨Z,B,B,B,Z,B⟩ (CC K Z T.n_zip<|XY (ZY (Pd K) (pv 0) (QX XO) Pq)<|XY (ZY (Pd K) (pv 1) (QX XO) Pq) XW) (Pl<|NH uB<|NH uB Pm) (λ_ _ _ _=>(Qj (n:=2) K Z<|Zw (Ze (i:=0) (show List.Nodup (["own","other","pivot","row","last"]:List Str) by decide +kernel) Z<|Or.inl Z)<|Zw (Ze (i:=1) (show List.Nodup (["own","other","pivot","row","last"]:List Str) by decide +kernel) Z<|Or.inl Z) Qo)) (λ_ _ _ _=>ZR) λ_ _ _ _=>(Zr oH (Zr SI (Zr oJ (ZC (Zc K) (pv 2) XO λ_ _=>rfl)<|pv 0)<|Zr oJ (ZC (Zc K) (pv 3) XO λ_ _=>rfl)<|pv 1)<|pv 4)),?_⟩;refine⟨_,Z,_,Z,r,_,Z,hR,λp1 UO=>?_⟩;rw[dv];have s1:=XZ (o:=.lst<|IL l) UO
  refine⟨_,Z,_,Z,p,_,Z,s1.seq hP,λp2 VO=>?_⟩;rw[dv];have s2:=XZ (o:=.lst<|IL q') VO
  have Wv:=s1.trans s2;have h1:=s2 _ _ (XS (H:=H) (a:=p1) (o:=.lst<|IL l))
  have h2:(upd (upd H p1<|.lst<|IL l) p2<|.lst<|IL q') p2=some (.lst<|IL q'):=XS;generalize upd (upd H p1<|.lst<|IL l) p2 (.lst<|IL q')=H2 at *;refine⟨p1,p2,Z,⟨_,_,SqL.of h1,SqL.of h2⟩,o8 (K:=K) (a:=p1) (b:=p2) (xs:=IL l) (ys:=IL q') (λi zs H3=>Same H2 H3/\i<=l.length/\zs=IL ((OM y q' last<|x::l).take i)) ⟨Same.refl _,Yj _,Z⟩ (by rwa[XD,XD]) (Zl<|by rw[XD];lia)
   (λi zs H3 hi zz=>by obtain⟨e,Wh,ez⟩:=zz;exact⟨SqL.of<|e _ _ h1,SqL.of<|e _ _ h2,by rw[ez,XD,Yn];lia⟩) ?_ ?_⟩
  .rintro i u v zs H3 pt RY hu hv ⟨s3,VB,rfl⟩ uz Xk;obtain⟨own,rfl,ho⟩:=WQ hu;obtain⟨IJ,rfl,ht⟩:=WQ hv;have Xj:=(Xr.mp ho).1
   have s4:=XZ (o:=.tup [.int own,.int IJ]) RY;refine⟨pt,_,Z,SqT.of XS,Z,_,_,Z,_,_,Z,Z,?_⟩;have Rw:=Wv.trans (s3.trans s4)
   have a1:=hy y Xd;have a2:=hx own (Yf _<|Xi ho)
   have a3:=hx x Xd;have a4:=hy IJ (Yf _<|Xi ht)
   refine⟨_,Z,p,_,0,.int y,Z,Z,Rw.seq hP,Zv (n:=0) Z Z,_,Z,_,_,Z,Z,⟨a1,a2⟩,_,Z,r,_,0,.int x,Z,Z,Rw.seq hR,Zv (n:=0) Z Z,_,Z,_,_,Z,Z,⟨a3,a4⟩,_,_,Z,Z,_,Z,_,_,Z,Z,⟨l0,l1⟩,?_⟩;refine Xk _ _ ⟨s3.trans s4,Xj,?_⟩;have e:(OM y q' last<|x::l)[i]?=some ((y*own-x*IJ).fdiv last):=by show(List.zipWith _ l q')[i]?=_;rw[LK,ho,ht];rfl
   rw[YJ,e];exact(ZE _ _).symm
  .rintro zs H3 ⟨s3,_,rfl⟩ c hc;rw[XD,YO (by rw[dw (by rw[Yt,aO])];lia)];exact q c _ (Wv.trans<|s3.trans<|XZ hc) ((Wv.trans s3).free hc) XS
inductive spZ2(K:Ad)(vs:List V)(H:Hp)(Q:VK)(_:XK):Prop
 |mk (a ys R:_) (_:vs=[.ref a]) (_:SqL K H a ys) (_:Bears (QQ H) ys R) (_:(∀l∈R,0<l.length)) (_:(∀H':Hp,Same H H'->(∀i,i<R.length->fnL R i 0=0)->Q .non H')) (_:(∀t H',Same H H'->t<R.length->fnL R t 0≠0->Q (.int t) H'))
theorem AZ:FnScope ["rows","at","row"] ["rows"] (Xt (top 12)):=WC B
theorem kl(T:Txt K mg t):Xf P w base Xo T.qZ2 1 (spZ2 K):=by
 refine T.qZ2.okI ["rows","at","row"] B λXC A outer s H vs Q E hr h=>?_
 .obtain⟨a,ys,R,rfl,hS,hB,hp,q0,q1⟩:=h;refine⟨_,(XQ (Va YQ Z (Gh K Z T.n_enumerate<|XY (pv 0) XW) (Qj (n:=2) K Z<|Zw (Ze (i:=1) AZ.nd Z<|Or.inl Z)<|Zw (Ze (i:=2) AZ.nd Z<|Or.inl Z) Qo)
   (XN (Xx (Zh Ub (ZC (Zc K) (pv 2) XO λ_ _=>rfl) XO<|Zo _)
   (XN<|Zi<|pv 1)
   Zm)))
   (XN<|Zi Qp)),?_⟩
  have HY:=hB.1;refine⟨_,Z,a,Z,⟨_,hS⟩,eV (K:=K) (a:=a) (xs:=ys) (λi σ H2=>∃v1 v2,σ=[some (.ref a),v1,v2]/\Same H H2/\∀j,j<i->fnL R j 0=0) ⟨none,none,Z,Same.refl _,λj h=>absurd h<|Ws _⟩ (λi σ H2 _ zz=>by obtain⟨_,_,_,e,_⟩:=zz;exact e.seq hS) ?_ ?_⟩
  .rintro i v σ H2 pt RY hi ⟨v1,v2,rfl,s2,hz⟩;obtain⟨l,hl,r,rfl,hr⟩:=hB.at hi;have FG:=hp l (Xi hl)
   obtain⟨x,l',rfl⟩:∃x l',l=x::l':=by
    cases l with
    |nil=>exact absurd FG (Sw 0)
    |cons x l'=>exact⟨x,l',Z⟩
   have e0:fnL R i 0=x:=Uw hl rfl;have s3:=s2.trans (XZ (o:=.tup [.int i,.ref r]) RY)
   refine⟨pt,_,Z,SqT.of XS,Z,_,_,Z,_,_,Z,Z,?_⟩;generalize upd H2 pt (.tup [.int i,.ref r])=H3 at *;refine⟨_,Z,r,_,0,.int x,Z,Z,SqL.of<|s3 _ _ hr,Zv (n:=0) Z Z,Z,_,Z,?_⟩;rw[Zy];refine WK (λe=>?_) (λe=>?_)
   .refine⟨_,_,Z,s3,λj hj=>?_⟩;by_cases c:j=i
    .rw[c,e0,e]
    .exact hz j J
   .exact⟨_,Z,q1 i H3 s3 (by have:=(Xr.mp hl).1;exact this)<|by rwa[e0]⟩
  .rintro σ H2 ⟨v1,v2,rfl,s2,hz⟩;exact q0 H2 s2 λi hi=>hz i J
inductive spZ3(K:Ad)(vs:List V)(H:Hp)(Q:VK)(_:XK):Prop
 |mk (a kd xs L:_) (_:vs=[.ref a]) (_:SqK kd K H a xs) (_:Bears (Cw K H) xs L) (_:L.length<=16) (_:(∀i j,i<L.length->j<L.length->(fnL L i j).natAbs<=2^400)) (_:((∀l∈L,l.length=L.length)->∀H':Hp,Same H H'->Q (.int<|det L.length<|fnL L) H')) (_:(¬(∀l∈L,l.length=L.length)->∀H':Hp,Same H H'->False))
theorem kj{s rest:TS}{D:Ends}{σ:L2.St}{H:Hp}(P:L2.St->Hp->Prop)(h1:∀σ' H',P σ' H'->rest D σ' H')(h2:∀K:L2.St->Hp->Prop,(∀σ' H',P σ' H'->K σ' H')->s {D with nx:=K} σ H):Vc s rest D σ H:=h2 _ h1
theorem SV:FnScope ["table","rows","sign","last","at","pivot"] ["table"] (Xt (top 13)):=WC B
theorem ki(T:Txt K mg t):Xf P w base Xo T.qZ3 2 (spZ3 K):=by
 refine T.qZ3.okI ["table","rows","sign","last","at","pivot"] B λXC A outer s H vs Q E hr h=>?_
 .obtain⟨a,kd,xs,L,rfl,hS,hB,AY,aN,q,qe⟩:=h;refine⟨_,(XQ (ZS<|XA (ko T) hr T.qZ0 Zs<|XY (pv 0) XW)
   (XQ (Uz (i:=1) Z SV.nd Z Z (sc0:=Xt<|top 13) (N0:=["table","rows","sign","last","at","pivot"]) (N':=["row"]) (o:=1) (fr:=[]) ⟨Z,B,B,B,Z,B⟩ (Ny K<|pv 0) (Zt uB) (λ_ _ _ _=>(Ze (i:=0) (show List.Nodup (["row"]:List Str) by decide +kernel) Z<|Or.inl Z)) (λ_ _ _ _=>ZR) λ_ _ _ _=>(Zj (Gj K) uG T.n_list Boot.«list»<|XY (pv 0) XW))
   (XQ (Zg (i:=2) SV.nd Z (Or.inl Z) XO)
   (XQ (Zg (i:=3) SV.nd Z (Or.inr Z) XO)
   (XQ (tW YQ (Zh MP (Zd (Zk K) uG T.n_len Boot.«len»<|XY (pv 1) XW) XO<|Zo _)
   (XQ (Zg (i:=4) SV.nd Z (Or.inl Z)<|XA (kl T) hr T.qZ2 Zs<|XY (pv 1) XW)
   (XQ (Xx (Zh Ec (pv 4) Qp<|Zo _)
   (XN<|Zi XO)
   Zm)
   (XQ (Xx (Zh SH (Zr ZL (pv 4) XO) XO<|Zo _)
   (XN<|Zg (i:=2) SV.nd Z (Or.inl Z)<|Ei Lo<|pv 2)
   Zm)
   (XQ (Zg (i:=5) SV.nd Z (Or.inr Z)<|UJ K YL fW fY DK (pv 1)<|XY (pv 4) XW)
   (XQ (Uz (i:=1) Z SV.nd Z Z (sc0:=Xt<|top 13) (N0:=["table","rows","sign","last","at","pivot"]) (N':=["row","pivot","last"]) (o:=1) (fr:=[5,3]) ⟨Z,B,B,B,Z,B⟩ (ZQ K<|pv 1) (Zt uB) (λ_ _ _ _=>(Ze (i:=0) (show List.Nodup (["row","pivot","last"]:List Str) by decide +kernel) Z<|Or.inl Z)) (λ_ _ _ _=>ZR) λ_ _ _ _=>(XA (km T) hr T.qZ1 Zs<|XY (pv 0)<|XY (pv 1)<|XY (pv 2) XW))
   (XN<|Zg (i:=3) SV.nd Z (Or.inr Z)<|ZC (Zc K) (pv 5) XO λ_ _=>rfl)))))))
   (XN<|Zi<|Zr oJ (pv 2)<|pv 3)))))),?_⟩
  have Kj:=hB.1;refine⟨_,Z,a,kd,xs,L,Z,hS,hB,λkh=>?_,λh=>qe h H<|Same.refl H⟩;have q:=q kh
  obtain⟨n,hn⟩:∃n,n=L.length:=⟨_,Z⟩;rw[<-hn]at q kh aN AY;refine⟨_,Z,a,Z,Dr (K:=K) (k:=kd) (a:=a) (xs:=xs) (λi zs H2=>Same H H2/\i<=xs.length/\Bears (QQ H2) zs (L.take i)) ⟨Same.refl _,Yj _,⟨Z,λi l e=>by simp at e⟩⟩ (Zl J) (λi zs H2 hi zz=>by obtain⟨e,Wh,ez⟩:=zz;exact⟨hS.same e,by rw[ez.1,Yn];lia⟩) ?_ ?_⟩
  .rintro i v zs H2 hi ⟨s2,VB,hZ⟩ uz Xk;obtain⟨l,hl,r,k,rfl,hr⟩:=hB.at hi;have Xj:=(Xr.mp hi).1
   refine nm ?_;refine⟨_,Z,r,_,Z,(hr.same s2).or,λc hc=>Xk _ _ ⟨s2.trans<|XZ hc,Xj,?_⟩⟩;rw[YJ,hl];refine(hZ.imp λ_ _ zz=>by obtain⟨r',e,h⟩:=zz;exact⟨r',e,XZ hc _ _ h⟩).snoc ⟨c,Z,XS⟩
  rintro zs H2 ⟨s2,_,hZ⟩ rA Ov;rw[Kj,YD]at hZ;have s3:=s2.trans (XZ (o:=.lst zs) Ov)
  refine⟨λm σ H4=>∃A k rA ys R sgn last v4 v5,σ=[some (.ref a),some<|.ref rA,some<|.int sgn,some<|.int last,v4,v5]/\Same H H4/\H rA=none/\H4 rA=some (.lst ys)/\Bears (LiV rA H4) ys R/\R.length=m/\(∀l∈R,l.length=m)/\k+m=n/\RG A k m (fnL R) last/\det n (fnL L)=sgn*det n A/\(∀i j,i<n->j<n->(A i j).natAbs<=2^400)/\(m=0->last=det n A)/\(sgn=1\/sgn=-1)/\last.natAbs<2^9000,⟨n,fnL L,0,rA,zs,L,1,1,none,none,Z,s3,s2.free Ov,XS,?_,hn.symm,kh,J,Zf9 _ _,uE,aN,λe=>by rw[e];rfl,.inl Z,Nat.one_lt_two_pow uB⟩,?_⟩
  .exact hZ.imp λv l zz=>by obtain⟨r,e,h⟩:=zz;exact⟨r,e,XZ Ov _ _ h,Za h Ov⟩
  rintro m σ H4 ⟨A,k,rA,ys,R,sgn,last,v4,v5,rfl,s4,Vu,Qb,hR,wD,Qa,wC,Mi,HX,aM,kg,aL,aK⟩;have HY:=hR.1
  refine⟨_,Z,rA,ys,Z,.inl<|SqL.of Qb,_,_,Z,Z,_,Z,?_⟩;refine Xh (λHW=>?_) (λHW=>?_)
  .obtain⟨M,rfl⟩:∃M,m=M+1:=⟨m-1,J⟩;refine⟨_,λσ' H' h=>⟨M,NO M,h⟩,?_⟩;have Mh:∀l∈R,∀z∈l,z.natAbs<2^9000:=λl hl z hz=>by
    obtain⟨i,hi⟩:=VX hl;obtain⟨j,hj⟩:=VX hz;have h1:=(Xr.mp hi).1
    have h2:=(Xr.mp hj).1;have h3:=Qa l hl
    have:=Zg9 Mi wC AY aM (i:=i) (j:=j) J J
    rwa[Uw hi hj]at this
   refine⟨_,Z,rA,ys,R,Z,SqL.of Qb,hR.imp λ_ _ h=>h.list,λl hl=>by rw[Qa l hl];lia,λH5 s5 h0=>?_,λt H5 s5 ht XH=>?_⟩
   .refine⟨_,Z,Z,_,Z,?_⟩;refine xZ (c:=V.non=V.non) Z ?_;have z:det n A=0:=by
     have:=oO Mi λi hi=>h0 i J
     rwa[show k+M+1=n by lia]at this
    rw[HX,z,RM]at q;exact q H5 (s4.trans s5)
   refine⟨_,Z,Z,_,Z,?_⟩;refine IZ (c:=V.int (t:Int)=V.non) (λz=>nomatch z) ?_;refine nm ?_;dsimp only;refine kj (λσ H6=>∃Mg:Int,H6=H5/\σ=[some (.ref a),some<|.ref rA,some<|.int Mg,some<|.int last,some<|.int t,v5]/\Mg=sgn*sg t) ?_ ?_
   .rintro σ H6 ⟨Mg,rfl,rfl,AX⟩;have FF:=s5 _ _ Qb
    have aJ:=hR.imp λ_ _ h=>h.same s5;obtain⟨l,hl⟩:∃l,R[t]?=some l:=⟨_,Xw ht⟩;have Vg:=Qa l (Xi hl)
    obtain⟨y,p',rfl⟩:∃y p',l=y::p':=by
     cases l with
     |nil=>cases Vg
     |cons y p'=>exact⟨y,p',Z⟩
    have UL:p'.length=M:=by rw[Yt]at Vg;lia
    obtain⟨v,hv,pA,rfl,kf,hpn⟩:=aJ.2 t _ hl;have hy0:y≠0:=by rwa[Uw hl Z]at XH
    refine⟨_,Z,.inl ⟨Z,_,SqL.of FF⟩,_,Z,rA,ys,(t:Int),t,.ref pA,Z,Z,FF,J,J,by rw[Sg J J,YA],hv,?_⟩;have AW:(upd H6 rA<|.lst<|ys.eraseIdx t) pA=some (.lst<|IL<|y::p'):=by rwa[Zb hpn]
    have s7:Same H (upd H6 rA<|.lst<|ys.eraseIdx t):=Zu Vu (s4.trans s5);have aI:Bears (LiV rA<|upd H6 rA<|.lst<|ys.eraseIdx t) (ys.eraseIdx t) (R.eraseIdx t):=(aJ.erase t).imp λ_ _ h=>h.mut
    have HV:(upd H6 rA<|.lst<|ys.eraseIdx t) rA=some (.lst<|ys.eraseIdx t):=XS;generalize upd H6 rA (.lst<|ys.eraseIdx t)=H7 at *;have aH:(R.eraseIdx t).length=M:=by rw[vq,if_pos ht];lia
    have HU:∀l∈R.eraseIdx t,l.length=M+1:=λl h=>Qa l (gr h);have hy7:=aI.1
    refine⟨_,Z,rA,Z,⟨_,SqL.of HV⟩,QR (K:=K) (a:=rA) (xs:=ys.eraseIdx t) (λi zs H8=>Same H7 H8/\i<=(ys.eraseIdx t).length/\Bears (QQ H8) zs (((R.eraseIdx t).take i).map (OM y p' last))) ⟨Same.refl _,Yj _,⟨Z,λi l e=>by simp at e⟩⟩ (Zl J) (λi zs H8 hi zz=>by obtain⟨e,Wh,ez⟩:=zz;exact⟨SqL.of<|e _ _ HV,by rw[ez.1,Yb,Yn];lia⟩) ?_ ?_⟩
    .rintro i v zs H8 hi ⟨s8,VB,wB⟩ uz Xk;obtain⟨l,KD,r,rfl,hr,_⟩:=aI.at hi;have Xj:=(Xr.mp hi).1
     have SD:=HU l (Xi KD);obtain⟨x,l',rfl⟩:∃x l',l=x::l':=by
      cases l with
      |nil=>cases SD
      |cons x l'=>exact⟨x,l',Z⟩
     have Rc:l'.length=M:=by rw[Yt]at SD;lia
     refine nm ?_;refine⟨_,Z,_,Z,_,Z,r,pA,x,y,last,l',p',Z,SqL.of<|s8 _ _ hr,SqL.of<|s8 _ _ AW,J,J,Mi.1,aK,Mh _<|gr<|Xi KD,Mh _<|Xi hl,λc H9 s9 PZ hc=>Xk _ _ ⟨s8.trans s9,Xj,?_⟩⟩;rw[YJ,KD,YG];exact(wB.imp λ_ _ zz=>by obtain⟨r',e,h⟩:=zz;exact⟨r',e,s9 _ _ h⟩).snoc ⟨c,Z,hc⟩
    rintro zs H8 ⟨s8,_,wB⟩ cA ke;rw[hy7,YD]at wB;have s9:=XZ (o:=.lst zs) ke
    refine⟨_,Z,pA,_,0,.int y,Z,Z,SqL.of<|s9 _ _<|s8 _ _ AW,Zv (n:=0) Z Z,?_⟩;have xg:RG (λi=>A<|rotN k t i) k (M+1) (fnL<|(y::p')::R.eraseIdx t) last:=by rw[oB hl];exact oP Mi J
    have Ta:RG (λi=>A<|rotN k t i) (k+1) M (fnL<|(R.eraseIdx t).map (OM y p' last)) y:=oR xg hy0 λi j hi hj=>oz UL aH HU hi hj;have hdr:=oX (n:=n) (k:=k) (t:=t) (A:=A) J
    refine⟨λi=>A<|rotN k t i,k+1,cA,zs,(R.eraseIdx t).map (OM y p' last),Mg,y,_,_,Z,s7.trans<|s8.trans s9,(s7.trans s8).free ke,XS,?_,by rw[Yb];exact aH,λl h=>?_,J,Ta,?_,λi j hi hj=>aM _ _ ?_ hj,λe0=>?_,?_,Mh _ (Xi hl) y Xd⟩
    .exact wB.imp λv l zz=>by obtain⟨r,e,h⟩:=zz;exact⟨r,e,s9 _ _ h,Za h ke⟩
    .obtain⟨l0,h0,rfl⟩:=Yz.mp h;rw[dw (by rw[HU l0 h0,UL]),UL]
    .rw[hdr,HX,AX,RO,<-RO (sg t),oy,Sv]
    .unfold rotN;split
     .grind
     .split
      .lia
      .split<;>lia
    .subst e0
     have:=oN xg
     rwa[show k+1=n by lia]at this
    .rw[AX];have Vb:sg t=1\/sg t=-1:=by
      unfold sg;split
      .exact .inl rfl
      .exact .inr rfl
     rcases aL with e|e<;>rcases Vb with f|f<;>rw[e,f]
     .exact .inl rfl
     .exact .inr rfl
     .exact .inr rfl
     .exact .inl rfl
   .intro Kn hK;refine⟨_,Z,_,_,Z,Z,(by show(0:Int)<2;decide),Z,_,Z,?_⟩;rw[Zy];refine Xh (λh1=>?_) (λh1=>?_)
    .refine⟨_,Z,_,Z,hK _ _ ⟨-sgn,Z,Z,?_⟩⟩;have e:sg t=-1:=by unfold sg;rw[if_neg J]
     rw[e];lia
    .refine hK _ _ ⟨sgn,Z,Z,?_⟩;have e:sg t=1:=by unfold sg;rw[if_pos J]
     rw[e];grind
  .have Ts:m=0:=J;refine⟨_,Z,_,Z,_,_,Z,Z,⟨?_,aK⟩,?_⟩
   .rcases aL with e|e<;>rw[e]<;>exact Nat.one_lt_two_pow uB
   .rw[kg Ts]at *;rw[HX]at q;exact q H4 s4
inductive spZ4(K:Ad)(vs:List V)(H:Hp)(Q:VK)(_:XK):Prop
 |mk (a:Addr) (l:Ac) (i:Nat) (_:vs=[.ref a,.int i]) (_:SqL K H a (IL l)) (_:l.length<=1000) (_:∀r H',Same H H'->H r=none->H' r=some (.lst<|IL<|cutz l i)->Q (.ref r) H')
theorem j9(l:Ac)(z:Int):cutz (IL l) z=IL (cutz l z):=by
 unfold cutz;show(l.map V.int).take _++(l.map V.int).drop _=(l.take _++l.drop _).map V.int
 rw[YG,List.map_take,List.map_drop]
theorem j8(T:Txt K mg t):Xf P w base Xo T.qZ4 1 (spZ4 K):=by
 refine T.qZ4.okI ["row","number"] B λXC A outer s H vs Q E hr h=>?_
 .obtain⟨a,l,i,rfl,hA,hl,q⟩:=h;refine⟨_,(XN<|Zi<|Zr QW (Zj (Gj K) uG T.n_list Boot.«list»<|XY (ZY (Pd K) (pv 0) Pq<|QX<|pv 1) XW)<|Zj (Gj K) uG T.n_list Boot.«list»<|XY (ZY (Pd K) (pv 0) (QX<|Zr UM (pv 1) XO) Pq) XW),?_⟩;refine⟨_,Z,_,Z,(i:Int),Z,a,_,Z,hA,λp1 UO=>?_⟩;have u1:=XZ (o:=.lst<|Xe (IL l) none<|some (i:Int)) UO
  refine⟨p1,_,Z,.inl<|SqL.of XS,λp2 VO=>?_⟩;have u2:=XZ (o:=.lst<|Xe (IL l) none<|some (i:Int)) VO
  refine⟨_,Z,_,Z,_,_,Z,Z,_,Z,a,_,Z,(u1.trans u2).seq hA,λp3 Nq=>?_⟩;have u3:=XZ (o:=.lst<|Xe (IL l) (some<|(i:Int)+1) none) Nq
  refine⟨p3,_,Z,.inl<|SqL.of XS,λp4 Np=>?_⟩;have u4:=XZ (o:=.lst<|Xe (IL l) (some<|(i:Int)+1) none) Np
  have c1:=sQ (IL l) none (some (i:Int));have c2:=sQ (IL l) (some<|(i:Int)+1) none
  rw[XD]at c1 c2;refine⟨p2,p4,_,_,Z,Z,(u3.trans u4) _ _ XS,XS,TY J,λp5 wA=>?_⟩;have aG:=u1.trans (u2.trans<|u3.trans u4)
  refine q p5 _ (aG.trans<|XZ wA) (aG.free wA) ?_;rw[XS,pV J,j9]
inductive spZ5(K:Ad)(vs:List V)(H:Hp)(Q:VK)(_:XK):Prop
 |mk (a:Addr) (ys:List V) (L:Ab) (i:Nat) (_:vs=[.ref a,.int i]) (_:SqL K H a ys) (_:Bears (QQ H) ys L) (_:L.length<=1000) (_:(∀l∈L,l.length<=1000)) (_:i<L.length) (_:∀r zs H',Same H H'->H' r=some (.lst zs)->Bears (QQ H') zs ((cutz L i).map λl=>cutz l (i:Int))->Q (.ref r) H')
theorem aE{α:Type}{l:List α}{i j:Nat}{x:α}(hx:l[j]?=some x):cutz (l.take (j+1)) (i:Int)=cutz (l.take j) (i:Int)++(if j=i then [] else [x]):=by
 have hj:=(Xr.mp hx).1;have e:l.take (j+1)=l.take j++[x]:=by rw[YJ,hx];rfl
 have hl:(l.take j).length=j:=by rw[Yn];grind
 have short:∀m:List α,m.length<=i->cutz m (i:Int)=m:=λm hm=>by unfold cutz;rw[YA,YO hm,LL J,YI]
 rw[e];by_cases c:j=i
 .subst c;rw[if_pos Z,YI,short (l.take j) J];unfold cutz;rw[YA,vK J,LL (by rw[Xu,hl];exact XJ _),YI,YO J]
 .rw[if_neg c];by_cases d:j<i
  .rw[short (l.take j++[x]) (by rwa[Xu,hl]),short (l.take j) J]
  .unfold cutz;rw[YA,vK uE,vJ J,Wd]
theorem j7(T:Txt K mg t):Xf P w base Xo T.qZ5 2 (spZ5 K):=by
 refine T.qZ5.okI ["table","number"] B λXC A outer s H vs Q E hr h=>?_
 .obtain⟨a,ys,L,i,rfl,hA,hB,hL,az,hi,q⟩:=h;refine⟨_,(XN<|Zi<|WG Z (sc0:=Xt<|top 15) (N0:=["table","number"]) (N':=["at","row","number"]) (o:=2) (fr:=[1]) ⟨Z,B,B,B,Z,B⟩ (Gh K Z T.n_enumerate<|XY (pv 0) XW) (Pl<|NH uB<|NH uB Pm) (λ_ _ _ _=>(Qj (n:=2) K Z<|Zw (Ze (i:=0) (show List.Nodup (["at","row","number"]:List Str) by decide +kernel) Z<|Or.inl Z)<|Zw (Ze (i:=1) (show List.Nodup (["at","row","number"]:List Str) by decide +kernel) Z<|Or.inl Z) Qo)) (λ_ _ _ _=>(Qm<|Zh Ub (pv 0) (pv 2)<|Zo _)) λ_ _ _ _=>(XA (j8 T) hr T.qZ4 Zs<|XY (pv 1)<|XY (pv 2) XW)),?_⟩;have HY:=hB.1
  refine⟨_,Z,a,Z,⟨_,hA⟩,xH (K:=K) (a:=a) (xs:=ys) (λj zs H2=>Same H H2/\j<=ys.length/\Bears (QQ H2) zs ((cutz (L.take j) (i:Int)).map λl=>cutz l (i:Int))) ⟨Same.refl _,Yj _,by rw[show(cutz (L.take 0) (i:Int)).map (λl=>cutz l (i:Int))=[] by unfold cutz;simp];exact⟨Z,λi l e=>by simp at e⟩⟩ (Zl J) (λj zs H2 hj ⟨e,Qg,ez⟩=>⟨e.seq hA,by
   rw[ez.1,Yb];refine Yv (pU _ _) ?_;rw[Yn]
   lia⟩) ?_ ?_⟩
  .rintro j v zs H2 pt RY hj ⟨s2,MG,hZ⟩ uz Xk;obtain⟨l,hl,r,rfl,hr⟩:=hB.at hj;have VJ:=(Xr.mp hj).1
   have s3:=XZ (o:=.tup [.int j,.ref r]) RY;refine⟨pt,_,Z,SqT.of XS,Z,_,_,Z,_,_,Z,Z,?_⟩;have ay:Bears (QQ<|upd H2 pt<|.tup [.int j,.ref r]) zs ((cutz (L.take j) (i:Int)).map λl=>cutz l (i:Int)):=hZ.imp λ_ _ zz=>by obtain⟨r',e,h⟩:=zz;exact⟨r',e,s3 _ _ h⟩
   have j6:=s2.trans s3;generalize upd H2 pt (.tup [.int j,.ref r])=H3 at *;refine⟨_,Z,_,Z,Z,_,Z,?_⟩;rw[Zy];refine WK (λe=>?_) (λe=>?_)
   .refine Xk _ _ ⟨j6,VJ,?_⟩;rwa[aE hl,if_pos J,YI]
   .refine⟨_,Z,_,Z,r,l,i,Z,SqL.of<|j6 _ _ hr,az l<|Xi hl,λc H4 s4 _ hc=>Xk _ _ ⟨j6.trans s4,VJ,?_⟩⟩;rw[aE hl,if_neg J,YG];exact(ay.imp λ_ _ zz=>by obtain⟨r',e,h⟩:=zz;exact⟨r',e,s4 _ _ h⟩).snoc ⟨c,Z,hc⟩
  .rintro zs H2 ⟨s2,_,hZ⟩ p hp;rw[HY,YD]at hZ;exact q p zs _ (s2.trans<|XZ hp) XS (hZ.imp λ_ _ zz=>by obtain⟨r',e,h⟩:=zz;exact⟨r',e,XZ hp _ _ h⟩)
inductive spZ6(C:Addr)(vs:List V)(H:Hp)(Q:VK)(_:XK):Prop
 |mk (w n ps k:_) (_:vs=[.ref w,.int k]) (_:WebAt C H w n ps) (_:Q (.bl<|decide<|0<=k/\k<(ps.length:Int)) H)
theorem AV(T:Txt K mg t):Xf P w base Xo T.qZ6 1 (spZ6 t.A_Web):=by
 refine T.qZ6.okI ["web","number"] B λXC A outer s H vs Q E hr h=>?_
 .obtain⟨w,n,ps,k,rfl,⟨dx,tl,xs,h1,h2,h3⟩,q⟩:=h;refine⟨_,(XN<|Zi<|tE Ll UC XO (pv 1)<|Zd (Zk K) uG T.n_len Boot.«len»<|XY (Zp K (pv 0) Z) XW),?_⟩;refine⟨_,Z,_,_,Z,Z,_,Z,?_⟩;refine DE (λhc=>?_) (λhc=>?_)
  .refine⟨_,Z,w,_,dx,_,_,Z,h1,T.cl_Web,T.n_Web_ties,Pe _ _,tl,xs,Z,.inl<|SqL.of h2,_,_,Z,Z,?_⟩;have hc:=Yr hc
   show Q (.bl<|decide<|k<(xs.length:Int)) H;rwa[h3.1,show decide (k<(ps.length:Int))=decide (0<=k/\k<(ps.length:Int)) from by simp[hc]]
  .have hc:¬(0<=k):=λz=>hc (Yp z);show Q (.bl false) H
   rwa[show(false:Bool)=decide (0<=k/\k<(ps.length:Int)) from by simp;lia]
inductive spZ7(K:Ad)(vs:List V)(H:Hp)(Q:VK)(_:XK):Prop
 |mk (n a kd xs ps:_) (_:vs=[.int n,.ref a]) (_:SqK kd K H a xs) (_:PairsV H xs ps) (_:Zz n ps) (_:Q .non H)
theorem AU:FnScope ["places","ties","ends","end"] ["places","ties"] (Xt (top 20)):=WC B
theorem j5(T:Txt K mg t):Xf P w base Xo T.qZ7 1 (spZ7 K):=by
 refine T.qZ7.okI ["places","ties","ends","end"] B λXC A outer s H vs Q E hr h=>?_
 .obtain⟨n,a,kd,xs,ps,rfl,hS,hp,⟨g1,g2,g3,g4⟩,q⟩:=h;refine⟨_,(XQ (Xx (UD<|yj Ll Ll XO (pv 0)<|yw (v:=V.int 14) Z T.g_MOST_PLACES.choose_spec ⟨_,Z⟩)
   (XN ZX)
   Zm)
   (XQ (Xx (Zh MP (Zd (Zk K) uG T.n_len Boot.«len»<|XY (pv 1) XW) (yw (v:=V.int 30) Z T.g_MOST_TIES.choose_spec ⟨_,Z⟩)<|Zo _)
   (XN ZX)
   Zm)
   (XN (Va YQ Z (Ny K<|pv 1) (Ze (i:=2) AU.nd Z<|Or.inl Z)
   (XN (Va YQ Z (Gi K<|pv 2) (Ze (i:=3) AU.nd Z<|Or.inl Z)
   (XN (Xx (UD<|yj Ll UC XO (pv 3)<|pv 0)
   (XN ZX)
   Zm)))))))),?_⟩
  refine⟨_,Z,_,_,Z,Z,_,Z,?_⟩;refine xZ g1 ?_;refine⟨_,_,Z,Z,_,Z,?_⟩;refine QS g2 ?_;refine⟨_,Z,a,xs,Z,hS.or,_,_,Z,Z,_,Z,?_⟩;refine IZ (by rw[hp.1];lia) ?_;refine⟨_,Z,a,Z,Du (k:=kd) (K:=K) (xs:=xs) (λi σ H2=>∃v v2,σ=[some (.int n),some<|.ref a,v,v2]/\H2=H) ⟨none,none,Z,Z⟩ (λi σ H2 _ zz=>by obtain⟨_,_,_,e⟩:=zz;exact e▸hS) ?_ ?_⟩
  .rintro i x σ H2 hi ⟨v,v2,rfl,rfl⟩;obtain⟨p,Pa,tt,rfl,ht⟩:=hp.at hi;obtain⟨e1,e2,e3,e4⟩:=g4 p (Xi Pa);refine⟨_,Z,tt,Z,⟨_,SqT.of ht⟩,tJ (K:=K) (a:=tt) (xs:=[.int p.1,.int p.2]) (λj σ H3=>∃v v2,σ=[some (.int n),some<|.ref a,v,v2]/\H3=H2) ⟨_,_,Z,Z⟩ (λj σ H3 _ zz=>by obtain⟨_,_,_,e⟩:=zz;exact e▸SqT.of ht) ?_ ?_⟩
   .rintro j y σ H3 hj ⟨v,v2,rfl,rfl⟩;have hy:∃z:Int,y=.int z/\0<=z/\z<n:=by
     match j,hj with
     |0,hj=>exact⟨p.1,(Ye hj).symm,e1,e2⟩
     |1,hj=>exact⟨p.2,(Ye hj).symm,e3,e4⟩
    obtain⟨z,rfl,z1,z2⟩:=hy;refine⟨_,Z,_,_,Z,Z,_,Z,?_⟩;refine xZ z1 ?_;refine⟨_,Z,_,_,Z,Z,_,Z,?_⟩;refine QS z2 ?_;exact⟨_,_,Z,Z⟩
   .rintro σ H3 ⟨v,v2,rfl,rfl⟩;exact⟨_,_,Z,Z⟩
  .rintro σ H2 ⟨v,v2,rfl,rfl⟩;exact q
inductive sp_Web_init(K:Ad)(C:Addr)(vs:List V)(H:Hp)(Q:VK)(_:XK):Prop
 |mk (w dx n a kd xs ps:_) (_:vs=[.ref w,.int n,.ref a]) (_:H w=some (.ins C dx [])) (_:(∀o,SqK kd K (upd H w o) a xs)) (_:PairsV H xs ps) (_:Zz n ps) (_:∀H':Hp,WebAt C H' w n ps->(∀b o,H b=some o->b≠w->H' b=some o)->Q .non H')
theorem j4:FnScope ["self","places","ties"] ["self","places","ties"] (Xt sZ8):=WC B
theorem AS(T:Txt K mg t):FnOk P w K mg base Xo 2 t.aZ8 t.dZ8 ["self","places","ties"] (sp_Web_init K t.A_Web):=by
 refine T.fZ8.ok j4 (λvs H Q E h=>?_) (λXC A outer s H vs Q E hr h=>?_)
 .obtain⟨w,dx,n,a,kd,xs,ps,rfl,_⟩:=h;rfl
 .obtain⟨w,dx,n,a,kd,xs,ps,rfl,hw,hS,hp,g,q⟩:=h;have eH:upd H w (.ins t.A_Web dx [])=H:=by
   funext b
   by_cases hb:b=w
   .subst hb;rw[XS,hw]
   .rw[Zb hb]
  have Ge:SqK kd K H a xs:=by have z:=hS (.ins t.A_Web dx []);rwa[eH]at z
  refine⟨_,(XQ (ZS<|XA (j5 T) hr T.qZ7 Zs<|XY (pv 1)<|XY (pv 2) XW)
   (XQ (MO (pv 0) (pv 1) Z)
   (XN<|MO (pv 0) (WG Z (sc0:=Xt sZ8) (N0:=["self","places","ties"]) (N':=["ends"]) (o:=1) (fr:=[]) ⟨Z,B,B,B,Z,B⟩ (Ny K<|pv 2) (Zt uB) (λ_ _ _ _=>(Ze (i:=0) (show List.Nodup (["ends"]:List Str) by decide +kernel) Z<|Or.inl Z)) (λ_ _ _ _=>ZR) λ_ _ _ _=>(WN<|XY (ZC (ZK K) (pv 0) XO λ_ _=>rfl)<|XY (ZC (ZK K) (pv 0) XO λ_ _=>rfl) XW)) Z))),?_⟩
  refine⟨_,Z,_,Z,n,a,kd,xs,ps,Z,Ge,hp,g,?_⟩;refine⟨_,Z,_,Z,w,_,dx,[],Z,hw,T.cl_Web,T.n_Web_places,(by show 0<1000;decide),?_⟩;have UO:PairsV (upd H w<|.ins t.A_Web dx<|XM "places" (.int n) []) xs ps:=⟨hp.1,λi p e=>by obtain⟨v,e1,tt,e2,e3⟩:=hp.2 i p e;exact⟨v,e1,tt,e2,by rwa[Zb (MW e3 hw (λz=>nomatch z))]⟩⟩
  have sx:xs.length<sizeLine:=Zl (by rw[hp.1];have:=g.2.2.1;lia);refine⟨_,Z,a,Z,Dr (k:=kd) (K:=K) (xs:=xs) (λi ys H2=>i<=xs.length/\ys.length=i/\Same (upd H w<|.ins t.A_Web dx<|XM "places" (.int n) []) H2/\PairsV H2 ys (ps.take i)) ⟨Yj _,Z,Same.refl _,PairsV.nil⟩ sx
   (λi ys H2 _ zz=>by obtain⟨_,hl,s2,_⟩:=zz;exact⟨(hS _).same s2,Nat.le_of_eq hl⟩) ?_ ?_⟩
  .rintro i x ys H2 hi ⟨h1,hl,s2,hy⟩ uz Xk;obtain⟨p,Pa,tt,rfl,ht⟩:=UO.at hi;have HS:=s2 _ _ ht
   refine Nz ?_;refine⟨_,Z,tt,_,0,.int p.1,Z,Z,SqT.of HS,Z,_,Z,tt,_,1,.int p.2,Z,Z,SqT.of HS,Z,(by show 2<=sizeLine;decide),λq hq=>?_⟩;have VB:i<xs.length:=(Xr.mp hi).1
   refine Xk _ _ ⟨VB,by rw[Xu,hl];rfl,Zq s2 hq,?_⟩;rw[YJ,Pa];exact(hy.same<|XZ hq).snoc ⟨q,Z,XS⟩
  .rintro ys H2 ⟨_,hl,s2,hy⟩ tl AR;have j3:=s2 w _ XS
   have ax:w≠tl:=Za j3 AR;refine⟨_,Z,w,_,dx,_,Z,(by rwa[Zb ax]),T.cl_Web,T.n_Web_ties,(by show 1<1000;decide),?_⟩;refine q _ ⟨dx,tl,ys,XS,by rw[Zb (XI ax),XS],?_⟩ λb ob e hb=>?_
   .have e1:ps.take xs.length=ps:=YO (by rw[hp.1];exact XJ _);rw[e1]at hy;refine⟨hy.1,λi p e=>?_⟩;obtain⟨v,e2,tt,e3,e4⟩:=hy.2 i p e;exact⟨v,e2,tt,e3,by rwa[Zb (MW e4 j3 (λz=>nomatch z)),Zb (Za e4 AR)]⟩
   .have e2:=s2 b ob (by rwa[Zb hb]);rwa[Zb hb,Zb (Za e2 AR)]
inductive spZ9(K:Ad)(C:Addr)(vs:List V)(H:Hp)(Q:VK)(_:XK):Prop
 |mk (w n ps:_) (_:vs=[.ref w]) (_:WebAt C H w n ps) (_:ps.length<=1000) (_:∀r H',Same H H'->H r=none->H' r=some (.tup<|IL<|Wi ps.length)->Q (.ref r) H')
theorem j0(T:Txt K mg t):Xf P w base Xo T.qZ9 1 (spZ9 K t.A_Web):=by
 refine T.qZ9.okI ["web"] B λXC A outer s H vs Q E hr h=>?_
 .obtain⟨w,n,ps,rfl,⟨dx,tl,xs,h1,h2,h3⟩,hl,q⟩:=h;refine⟨_,(XN<|Zi<|Zj (ZI3 Z) uG T.n_tuple Boot.«tuple»<|XY (Zj Dz uG T.n_range Boot.«range»<|XY (Zd (Zk K) uG T.n_len Boot.«len»<|XY (Zp K (pv 0) Z) XW) XW) XW),?_⟩;have hx:=h3.1
  refine⟨_,Z,w,_,dx,_,_,Z,h1,T.cl_Web,T.n_Web_ties,Pe _ _,tl,xs,Z,.inl<|SqL.of h2,_,Z,λr hr=>⟨r,0,_,Z,XS,⟨uB,uB,J,J⟩,J,λl hl=>?_⟩⟩;refine q l _ (Zq (XZ hr) hl) ((XZ hr).free hl) ?_;rw[XS,hx,p7]
inductive spZa(K:Ad)(C:Addr)(vs:List V)(H:Hp)(Q:VK)(_:XK):Prop
 |mk (w a n ps kd T:_) (_:vs=[.ref w,.ref a]) (_:WebAt C H w n ps) (_:ps.length<=1000) (_:SqK kd K H a (IL T)) (_:∀D,D.Pairwise (·<·)->(∀z,z∈D↔(0<=z/\z<(ps.length:Int))/\z∉T)->∀r H',Same H H'->H' r=some (.tup<|IL D)->Q (.ref r) H')
theorem HR(T:Txt K mg t):Xf P w base Xo T.qZa 1 (spZa K t.A_Web):=by
 refine T.qZa.okI ["web","ties"] B λXC A outer s H vs Q E hr h=>?_
 .obtain⟨w,a,n,ps,kd,T',rfl,hW,hl,hA,q⟩:=h;refine⟨_,(XN<|Zi<|Zj (ZF K) uG T.n_tuple Boot.«tuple»<|XY (WG Z (sc0:=Xt<|top 23) (N0:=["web","ties"]) (N':=["tie","ties"]) (o:=1) (fr:=[1]) ⟨Z,B,B,B,Z,B⟩ (ZP Z T.n_range<|XY (Zd (Zk K) uG T.n_len Boot.«len»<|XY (Zp K (pv 0) Z) XW) XW) (Zt uB) (λ_ _ _ _=>(Ze (i:=0) (show List.Nodup (["tie","ties"]:List Str) by decide +kernel) Z<|Or.inl Z)) (λ_ _ _ _=>(Qm<|Zh (Gk K) (pv 0) (pv 1) Z)) λ_ _ _ _=>(pv 0)) XW),?_⟩;obtain⟨dx,tl,xs,h1,h2,h3⟩:=hW;have RH:=h3.1
  refine⟨_,Z,w,_,dx,_,_,Z,h1,T.cl_Web,T.n_Web_ties,Pe _ _,tl,xs,Z,.inl<|SqL.of h2,_,Z,J,J,xY (lo:=0) (n:=(xs.length:Int).toNat) (λj ys H3=>H3=H/\∃D:Ac,ys=IL D/\D.length<=j/\D.Pairwise (·<·)/\∀z,z∈D↔(0<=z/\z<(j:Int))/\z∉T') ⟨Z,[],Z,XJ _,.nil,λz=>⟨λh=>(by cases h),λh=>(by lia)⟩⟩ (Zl J) (λj ys H3 _ zz=>by obtain⟨_,D,e,hl,_⟩:=zz;rwa[e,XD]) ?_ ?_⟩
  .rintro j ys H3 hj ⟨rfl,D,rfl,AQ,hp,hm⟩ uz Xk;have lt:∀z∈D,z<(j:Int):=λz hz=>((hm z).mp hz).1.2
   refine nm ?_;refine⟨_,Z,_,Z,a,_,Z,hA.or,Z,ZT _,_,Z,?_⟩;rw[Pb,Lz];refine WK (λWE=>?_) (λWE=>?_)
   .refine Xk _ _ ⟨Z,D,Z,J,hp,λz=>?_⟩;rw[hm z];refine⟨λh=>⟨J,h.2⟩,λh=>⟨⟨h.1.1,?_⟩,h.2⟩⟩;by_cases e:z=(j:Int)
    .exact absurd (e▸WE) h.2
    .lia
   .refine⟨_,Z,Xk _ _ ⟨Z,D++[(j:Int)],?_,by rw[Xu];exact yW AQ,?_,λz=>?_⟩⟩
    .rw[ZE]
    .exact PN.mpr ⟨hp,NR _ _,λa ha b hb=>by rw[XG.mp hb];exact lt a ha⟩
    .rw[XE,XG,hm z];constructor
     .rintro(⟨f1,f2⟩|h)
      .exact⟨J,f2⟩
      .rw[h];exact⟨J,WE⟩
     .rintro⟨f1,f2⟩;by_cases e:z=(j:Int)
      .exact .inr e
      .exact .inl ⟨J,f2⟩
  rintro ys H3 ⟨rfl,D,rfl,AQ,hp,hm⟩ la jZ;rw[show(((xs.length:Int).toNat:Nat):Int)=(ps.length:Int) by lia]at hm;refine⟨la,_,Z,.inl ⟨SqL.of XS,λtp Mf=>?_⟩⟩;exact q D hp hm tp _ ((XZ jZ).trans (XZ Mf)) XS
inductive spZb(K:Ad)(vs:List V)(H:Hp)(Q:VK)(_:XK):Prop
 |mk (a kd ns z:_) (_:vs=[.ref a,.int z]) (_:SqK kd K H a (IL ns)) (_:ns.length<=1000) (_:∀r H',Same H H'->H r=none->H' r=some (.tup<|IL<|wo ns z)->Q (.ref r) H')
theorem AO(T:Txt K mg t):Xf P w base Xo T.qZb 1 (spZb K):=by
 refine T.qZb.okI ["ties","left_out"] B λXC A outer s H vs Q E hr h=>?_
 .obtain⟨a,kd,ns,z,rfl,hS,hn,q⟩:=h;refine⟨_,(XN<|Zi<|Zj (ZF K) uG T.n_tuple Boot.«tuple»<|XY (WG Z (sc0:=Xt<|top 24) (N0:=["ties","left_out"]) (N':=["tie","left_out"]) (o:=1) (fr:=[1]) ⟨Z,B,B,B,Z,B⟩ (Ny K<|pv 0) (Zt uB) (λ_ _ _ _=>(Ze (i:=0) (show List.Nodup (["tie","left_out"]:List Str) by decide +kernel) Z<|Or.inl Z)) (λ_ _ _ _=>(Qm<|Zh Ub (pv 0) (pv 1)<|Zo _)) λ_ _ _ _=>(pv 0)) XW),?_⟩;refine⟨_,Z,a,Z,Dr (k:=kd) (K:=K) (xs:=IL ns) (λi ys H2=>H2=H/\i<=ns.length/\ys=IL (wo (ns.take i) z)) ⟨Z,Yj _,Z⟩ (Zl<|by rw[XD];lia)
   (λi ys H2 hi zz=>by obtain⟨e,Wh,ey⟩:=zz;exact⟨e▸hS,by rw[ey,XD];exact Yv (KW _ _)<|by rw[Yn];lia⟩) ?_ ?_⟩
  .rintro i x ys H2 hi ⟨rfl,VB,rfl⟩ uz Xk;obtain⟨y,rfl,hy⟩:=WQ hi;have Xj:i<ns.length:=(Xr.mp hy).1
   refine nm ?_;refine⟨_,Z,_,Z,Z,_,Z,?_⟩;rw[Zy];refine WK (λhe=>?_) (λhe=>?_)
   .refine Xk _ _ ⟨Z,Xj,?_⟩;rw[d9 hy,if_neg (by simpa using he),YI]
   .refine⟨_,Z,Xk _ _ ⟨Z,Xj,?_⟩⟩;rw[d9 hy,if_pos he,ZE]
  .rintro ys H2 ⟨rfl,_,rfl⟩ p hp;rw[XD,YD];refine⟨p,_,Z,.inl ⟨SqL.of XS,λr hr=>?_⟩⟩;exact q r _ (Zq (XZ hp) hr) ((XZ hp).free hr) XS
inductive spZc(K:Ad)(vs:List V)(H:Hp)(Q:VK)(_:XK):Prop
 |mk (a b:Addr) (ns ms:Ac) (_:vs=[.ref a,.ref b]) (_:SqT K H a (IL ns)) (_:SqT K H b (IL ms)) (_:ns.length<=1000) (_:∀(c:Bool)(H':Hp),(c=true↔∃z∈ns,z∈ms)->Same H H'->Q (.bl c) H')
theorem jY(T:Txt K mg t):Xf P w base Xo T.qZc 1 (spZc K):=by
 refine T.qZc.okI ["one","other"] B λXC A outer s H vs Q E hr h=>?_
 .obtain⟨a,b,ns,ms,rfl,hA,hB,hl,q⟩:=h;refine⟨_,(XN<|Zi<|Zd (eK K Z) uG T.n_any Boot.«any»<|XY (WG Z (sc0:=Xt<|top 25) (N0:=["one","other"]) (N':=["tie","other"]) (o:=1) (fr:=[1]) ⟨Z,B,B,B,Z,B⟩ (Gi K<|pv 0) (Zt uB) (λ_ _ _ _=>(Ze (i:=0) (show List.Nodup (["tie","other"]:List Str) by decide +kernel) Z<|Or.inl Z)) (λ_ _ _ _=>ZR) λ_ _ _ _=>(Sn (Dq K) (pv 0) (pv 1) Z)) XW),?_⟩;refine⟨_,Z,a,Z,⟨_,hA⟩,Ds (K:=K) (a:=a) (xs:=IL ns) (λi us H2=>H2=H/\i<=ns.length/\us=((ns.take i).map λz=>decide<|z∈ms).map V.bl) ⟨Z,Yj _,Z⟩ (Zl<|by rw[XD];lia)
   (λi us H2 hi zz=>by obtain⟨e,Wh,ey⟩:=zz;exact⟨e▸hA,by rw[ey,Yb,Yb,Yn];lia⟩) ?_ ?_⟩
  .rintro i v us H2 hi ⟨rfl,VB,rfl⟩ uz Xk;obtain⟨z,rfl,hz⟩:=WQ hi;refine nm ?_;refine⟨_,Z,_,Z,b,_,Z,.inr hB,Z,ZT _,?_⟩;rw[Pb];refine Xk _ _ ⟨Z,(Xr.mp hz).1,?_⟩;rw[YJ,hz,YG,YG];rfl
  .rintro us H2 ⟨rfl,_,rfl⟩ p hp;rw[XD,YD];refine⟨p,_,Z,SqL.of XS,?_⟩;refine q _ _ ?_ (XZ hp);rw[List.any_map,LF];constructor
   .rintro⟨z,h1,h2⟩;exact⟨z,h1,Yr h2⟩
   .rintro⟨z,h1,h2⟩;exact⟨z,h1,Yp h2⟩
inductive spZd(K:Ad)(C:Addr)(vs:List V)(H:Hp)(Q:VK)(_:XK):Prop
 |mk (w a n ps kd ns:_) (_:vs=[.ref w,.ref a]) (_:WebAt C H w n ps) (_:SqK kd K H a (IL ns)) (_:∀b:Bool,(b=true↔IsSet ps.length ns)->Q (.bl b) H)
theorem HQ:FnScope ["web","ties","last","tie"] ["web","ties"] (Xt (top 26)):=WC B
theorem AN(T:Txt K mg t):Xf P w base Xo T.qZd 2 (spZd K t.A_Web):=by
 refine T.qZd.okI ["web","ties","last","tie"] B λXC A outer s H vs Q E hr h=>?_
 .obtain⟨w,a,n,ps,kd,ns,rfl,hW,hS,q⟩:=h;refine⟨_,(XQ (Zg (i:=2) HQ.nd Z (Or.inl Z)<|Ei Lo XO)
   (XQ (Va YQ Z (Ny K<|pv 1) (Ze (i:=3) HQ.nd Z<|Or.inl Z)
   (XQ (Xx (PW.pt<|Sq (Zh Ll (pv 3) (pv 2)<|Zo _)<|JA<|UD<|PD<|XA (AV T) hr T.qZ6 Zs<|XY (pv 0)<|XY (pv 3) XW)
   (XN<|Zi UE)
   Zm)
   (XN<|Zg (i:=2) HQ.nd Z (Or.inl Z)<|pv 3)))
   (XN<|Zi UE))),?_⟩
  refine⟨_,Z,?_⟩;refine⟨_,Z,a,Z,Du (k:=kd) (K:=K) (xs:=IL ns) (λi σ H2=>∃l v,σ=[some (.ref w),some<|.ref a,some<|.int l,v]/\H2=H/\(i=0->l=-1)/\(i≠0->ns[i-1]?=some l)/\∀j z,j<i->ns[j]?=some z->0<=z/\z<(ps.length:Int)/\∀y,j≠0->ns[j-1]?=some y->y<z)
   ⟨-1,none,Z,Z,λ_=>rfl,λz=>absurd Z z,λj z hj=>absurd hj<|Ws j⟩ (λi σ H2 _ zz=>by obtain⟨_,_,_,e,_⟩:=zz;exact e▸hS) ?_ ?_⟩
  .rintro i x σ H2 hi ⟨l,v,rfl,rfl,Qf,Ui,hp⟩;obtain⟨z,rfl,hz⟩:=WQ hi;refine⟨_,Z,_,Z,_,_,Z,Z,_,Z,?_⟩;refine Xh (λhc=>?_) (λhc=>?_)
   .-- tie<=last
    refine Wb ?_;refine q false ⟨λz=>(nomatch z),λhs=>?_⟩;obtain⟨b1,b2,b3⟩:=hs i z hz;by_cases h0:i=0
    .have:=Qf h0;lia
    .have:=b3 l h0 (Ui h0);lia
   .refine⟨_,Z,_,Z,w,n,ps,z,Z,hW,_,Z,?_⟩;refine WK (λWc=>?_) (λWc=>?_)
    .refine⟨_,Z,?_⟩;refine⟨z,_,Z,Z,λe=>(nomatch e),λ_=>by simpa using hz,λj y hj ey=>?_⟩;by_cases Dm:j<i
     .exact hp j y Dm ey
     .have e:j=i:=J;subst e;rw[hz]at ey;cases ey;refine⟨Wc.1,Wc.2,λy h0 ey=>?_⟩;rw[Ui h0]at ey;cases ey;lia
    .refine q false ⟨λz=>(nomatch z),λhs=>?_⟩;obtain⟨b1,b2,b3⟩:=hs i z hz;exact absurd ⟨b1,b2⟩ Wc
  .rintro σ H2 ⟨l,v,rfl,rfl,Qf,Ui,hp⟩;refine q true ⟨λ_ i z hz=>?_,λ_=>rfl⟩;have hi:i<(IL ns).length:=by rw[XD];exact(Xr.mp hz).1
   exact hp i z hi hz
inductive spZe(K:Ad)(C:Addr)(vs:List V)(H:Hp)(Q:VK)(_:XK):Prop
 |mk (w a n ps kd ns:_) (_:vs=[.ref w,.ref a]) (_:WebAt C H w n ps) (_:SqK kd K H a (IL ns)) (_:IsSet ps.length ns) (_:∀r H',Same H H'->SqT K H' r (IL ns)->Q (.ref r) H')
theorem HP(T:Txt K mg t):Xf P w base Xo T.qZe 3 (spZe K t.A_Web):=by
 refine T.qZe.okI ["web","ties"] B λXC A outer s H vs Q E hr h=>?_
 .obtain⟨w,a,n,ps,kd,ns,rfl,hW,hS,hI,q⟩:=h;refine⟨_,(XQ (Xx (UD<|PD<|XA (AN T) hr T.qZd Zs<|XY (pv 0)<|XY (pv 1) XW)
   (XN ZX)
   Zm)
   (XN<|Zi<|Zj (ZF K) uG T.n_tuple Boot.«tuple»<|XY (pv 1) XW)),?_⟩
  refine⟨_,Z,_,Z,w,a,n,ps,kd,ns,Z,hW,hS,λb hb=>⟨_,Z,?_⟩⟩;refine Dw (λ_=>?_) (λz=>?_)
  .refine⟨_,Z,a,IL ns,Z,?_⟩;cases kd with
   |false=>exact .inl ⟨hS,λl hl=>q l _ (XZ hl)<|SqT.of XS⟩
   |true=>exact .inr ⟨hS,q a H (Same.refl H) hS⟩
  .rw[hb.mpr hI]at z;cases z
inductive spZf(K:Ad)(C:Addr)(vs:List V)(H:Hp)(Q:VK)(_:XK):Prop
 |mk (w m a n ps M kd ns:_) (_:vs=[.ref w,.ref m,.ref a]) (_:WebAt C H w n ps) (_:Zz n ps) (_:H m=some (.lst<|IL M)) (_:M.length=n.toNat) (_:SqK kd K H a (IL ns)) (_:(∀z∈ns,0<=z/\z<(ps.length:Int))) (_:∀m' H',Same H H'->(m'=m\/H m'=none)->H' m'=some (.lst<|IL<|Nv M<|XR ps ns)->Q (.ref m') H')
theorem Ou:FnScope ["web","marks","ties","tie","ends","low","high"] ["web","marks","ties"] (Xt (top 28)):=WC B
theorem AM(T:Txt K mg t):Xf P w base Xo T.qZf 1 (spZf K t.A_Web):=by
 refine T.qZf.okI ["web","marks","ties","tie","ends","low","high"] B λXC A outer s H vs Q E hr h=>?_
 .obtain⟨w,m0,a,n,ps,M0,kd,ns,rfl,⟨dx,tl,xs,h1,h2,h3⟩,⟨g1,g2,g3,g4⟩,hm,jX,hS,hI,q⟩:=h;refine⟨_,(XQ (Va YQ Z (Ny K<|pv 2) (Ze (i:=3) Ou.nd Z<|Or.inl Z)
   (XQ (Zg (i:=4) Ou.nd Z (Or.inl Z)<|ZC (Zc K) (Zp K (pv 0) Z) (pv 3) λ_ _=>rfl)
   (XQ (Zg (i:=5) Ou.nd Z (Or.inr Z)<|Zd (yi Z) uG T.n_min Boot.«min»<|XY (ZC (Zc K) (pv 1) (ZC (ZK K) (pv 4) XO λ_ _=>rfl) λ_ _=>rfl)<|XY (ZC (Zc K) (pv 1) (ZC (ZK K) (pv 4) XO λ_ _=>rfl) λ_ _=>rfl) XW)
   (XQ (Zg (i:=6) Ou.nd Z (Or.inr Z)<|Zd (DZ Z) uG T.n_max Boot.«max»<|XY (ZC (Zc K) (pv 1) (ZC (ZK K) (pv 4) XO λ_ _=>rfl) λ_ _=>rfl)<|XY (ZC (Zc K) (pv 1) (ZC (ZK K) (pv 4) XO λ_ _=>rfl) λ_ _=>rfl) XW)
   (XN (Xx (Zh UC (pv 5) (pv 6)<|Zo _)
   (XN<|Uz (i:=1) Z Ou.nd Z Z (sc0:=Xt<|top 28) (N0:=["web","marks","ties","tie","ends","low","high"]) (N':=["mark","high","low"]) (o:=1) (fr:=[6,5]) ⟨Z,B,B,B,Z,B⟩ (ZQ K<|pv 1) (Zt uB) (λ_ _ _ _=>(Ze (i:=0) (show List.Nodup (["mark","high","low"]:List Str) by decide +kernel) Z<|Or.inl Z)) (λ_ _ _ _=>ZR) λ_ _ _ _=>(yr (Zh SH (pv 0) (pv 1)<|Zo _) (pv 2)<|pv 0))
   Zm))))))
   (XN<|Zi<|pv 1)),?_⟩
  refine⟨_,Z,a,Z,Du (k:=kd) (K:=K) (a:=a) (xs:=IL ns) (λi σ H2=>∃m v3 v4 v5 v6,σ=[some (.ref w),some<|.ref m,some<|.ref a,v3,v4,v5,v6]/\Same H H2/\(m=m0\/H m=none)/\H2 m=some (.lst<|IL<|Nv M0<|XR ps<|ns.take i))
   ⟨m0,none,none,none,none,Z,Same.refl _,.inl Z,hm⟩ (λi σ H2 _ zz=>by obtain⟨_,_,_,_,_,_,s2,_⟩:=zz;exact hS.same s2) ?_ ?_⟩
  .rintro i x σ H2 hi ⟨m,v3,v4,v5,v6,rfl,s2,Ts,Wz⟩;obtain⟨z,rfl,hz⟩:=WQ hi;obtain⟨z0,z1⟩:=hI z (Xi hz);obtain⟨p,hp⟩:∃p,ps[z.toNat]?=some p:=⟨_,Xw J⟩;obtain⟨v,hv,tt,rfl,Us⟩:=h3.2 z.toNat p hp;obtain⟨e1,e2,e3,e4⟩:=g4 p (Xi hp);have ed:ps.getD z.toNat (0,0)=p:=ZW hp
   refine⟨_,Z,w,_,dx,_,_,Z,s2 _ _ h1,T.cl_Web,T.n_Web_ties,Pe _ _,_,Z,tl,xs,z,.ref tt,Z,Z,SqL.of<|s2 _ _ h2,Zv (n:=z.toNat) J hv,?_⟩;have HS:=s2 _ _ Us
   have hl:(Nv M0<|XR ps<|ns.take i).length=n.toNat:=(ZR6 _ _).trans jX;generalize hM:Nv M0 (XR ps<|ns.take i)=M at *;have ha:M[p.1.toNat]?=some (mk M p.1.toNat):=Si uE
   have hb:M[p.2.toNat]?=some (mk M p.2.toNat):=Si uE;have iA:Wr (IL M) p.1=some (.int<|mk M p.1.toNat):=Zv (n:=p.1.toNat) J (by rw[Yl,ha];rfl)
   have iB:Wr (IL M) p.2=some (.int<|mk M p.2.toNat):=Zv (n:=p.2.toNat) J (by rw[Yl,hb];rfl);have t0:Wr ([.int p.1,.int p.2]:List V) 0=some (.int p.1):=rfl
   have t1:Wr ([.int p.1,.int p.2]:List V) 1=some (.int p.2):=rfl;refine⟨_,rfl,_,rfl,tt,_,0,_,rfl,rfl,SqT.of HS,t0,m,_,p.1,_,rfl,rfl,SqL.of Wz,iA,_,rfl,_,rfl,tt,_,1,_,rfl,rfl,SqT.of HS,t1,m,_,p.2,_,rfl,rfl,SqL.of Wz,iB,_,_,rfl,?_⟩;refine⟨_,rfl,_,rfl,tt,_,0,_,rfl,rfl,SqT.of HS,t0,m,_,p.1,_,rfl,rfl,SqL.of Wz,iA,_,rfl,_,rfl,tt,_,1,_,rfl,rfl,SqT.of HS,t1,m,_,p.2,_,rfl,rfl,SqL.of Wz,iB,_,_,rfl,?_⟩;have eL:(if mk M p.2.toNat<mk M p.1.toNat then mk M p.2.toNat else mk M p.1.toNat)=min (mk M p.1.toNat) (mk M p.2.toNat):=by rw[Int.min_def];split<;>split<;>lia
   have eH:(if mk M p.2.toNat>mk M p.1.toNat then mk M p.2.toNat else mk M p.1.toNat)=max (mk M p.1.toNat) (mk M p.2.toNat):=by rw[Int.max_def];split<;>split<;>lia
   refine⟨_,Z,_,Z,_,_,Z,Z,_,Z,?_⟩;rw[eL,eH];have step:Nv M0 (XR ps<|ns.take<|i+1)=pm M p.1.toNat p.2.toNat:=by rw[eQ hz,p8,hM,ed]
   refine Xh (λhc=>?_) (λhc=>?_)
   .refine⟨_,Z,m,Z,⟨_,SqL.of Wz⟩,QR (K:=K) (a:=m) (xs:=IL M) (λj ys H3=>H3=H2/\j<=M.length/\ys=IL ((M.take j).map λk=>if k=max (mk M p.1.toNat) (mk M p.2.toNat) then min (mk M p.1.toNat) (mk M p.2.toNat) else k)) ⟨Z,Yj _,Z⟩ (Zl<|by rw[XD];grind)
     (λj ys H3 hj zz=>by obtain⟨e,MG,ey⟩:=zz;exact⟨e▸SqL.of Wz,by rw[ey,XD,Yb,Yn];lia⟩) ?_ ?_⟩
    .rintro j y ys H3 hj ⟨rfl,MG,rfl⟩ uz Xk;obtain⟨k,rfl,hk⟩:=WQ hj;refine Nz ?_;refine⟨_,Z,_,Z,Z,_,Z,?_⟩;have VJ:j<M.length:=(Xr.mp hk).1
     have app:∀r:Int,r=(if k=max (mk M p.1.toNat) (mk M p.2.toNat) then min (mk M p.1.toNat) (mk M p.2.toNat) else k)->
       IL ((M.take j).map λk=>if k=max (mk M p.1.toNat) (mk M p.2.toNat) then min (mk M p.1.toNat) (mk M p.2.toNat) else k)++[.int r]=IL ((M.take<|j+1).map λk=>if k=max (mk M p.1.toNat) (mk M p.2.toNat) then min (mk M p.1.toNat) (mk M p.2.toNat) else k):=by intro r er;rw[YJ,hk,er];simp
     refine Xh (λhe=>?_) (λhe=>?_)
     .refine⟨_,Z,Xk _ _ ⟨Z,VJ,app _ ?_⟩⟩;rw[if_pos (V.int.inj he)]
     .refine⟨_,Z,Xk _ _ ⟨Z,VJ,app _ ?_⟩⟩;rw[if_neg λz=>he (Xy V.int z)]
    .rintro ys H3 ⟨rfl,_,rfl⟩ p' HN;refine⟨p',_,_,_,_,Z,Zq s2 HN,.inr<|s2.free HN,?_⟩;rw[XS,step,XD,YD];unfold pm;rw[if_pos hc]
   .refine⟨m,_,_,_,_,Z,s2,Ts,?_⟩;rw[Wz,step];unfold pm;rw[if_neg hc]
  .rintro σ H2 ⟨m,v3,v4,v5,v6,rfl,s2,Ts,Wz⟩;rw[XD,YD]at Wz;exact⟨_,Z,q m H2 s2 Ts Wz⟩
inductive spZg(K:Ad)(C:Addr)(vs:List V)(H:Hp)(Q:VK)(_:XK):Prop
 |mk (w a n ps ns:_) (_:vs=[.ref w,.ref a]) (_:WebAt C H w n ps) (_:Zz n ps) (_:SqT K H a (IL ns)) (_:(∀z∈ns,0<=z/\z<(ps.length:Int))) (_:∀m H',Same H H'->H m=none->H' m=some (.lst<|IL<|Xs n.toNat<|XR ps ns)->Q (.ref m) H')
theorem Qx(T:Txt K mg t):Xf P w base Xo T.qZg 2 (spZg K t.A_Web):=by
 refine T.qZg.okI ["web","ties"] B λXC A outer s H vs Q E hr h=>?_
 .obtain⟨w,a,n,ps,ns,rfl,hW,hG,hS,hI,q⟩:=h;refine⟨_,(XN<|Zi<|XA (AM T) hr T.qZf Zs<|XY (pv 0)<|XY (Zj (x6 Z) uG T.n_list Boot.«list»<|XY (Zj Dz uG T.n_range Boot.«range»<|XY (Zp K (pv 0) Z) XW) XW)<|XY (pv 1) XW),?_⟩;obtain⟨dx,tl,xs,h1,h2,h3⟩:=id hW;obtain⟨g1,g2,g3,g4⟩:=id hG;refine⟨_,Z,_,Z,w,_,dx,_,_,Z,h1,T.cl_Web,T.n_Web_places,IW _ _,n,Z,λr Vu=>⟨r,0,n,Z,XS,⟨uB,uB,J,uD⟩,J,λm hm=>?_⟩⟩;have sm:Same H (upd (upd H r<|.rng 0 n) m<|.lst<|(WT 0 n).map V.int):=Zq (XZ Vu) hm
  refine⟨_,Z,w,m,a,n,ps,(List.range n.toNat).map λ(i:Nat)=>(i:Int),true,ns,Z,hW.same sm,hG,?_,S,ZG sm hS,hI,λm' H' s' hf Lb=>?_⟩
  .rw[XS,qJ]
  .refine q m' H' (sm.trans s') ?_ Lb;rcases hf with rfl|hf
   .exact(XZ Vu).free hm
   .exact sm.free hf
inductive spZh(K:Ad)(C:Addr)(vs:List V)(H:Hp)(Q:VK)(_:XK):Prop
 |mk (w a n ps kd ns:_) (_:vs=[.ref w,.ref a]) (_:WebAt C H w n ps) (_:Zz n ps) (_:SqK kd K H a (IL ns)) (_:IsSet ps.length ns) (_:∀r as H',Same H H'->H r=none->H' r=some (.lst<|as.map V.ref)->r∉as->GrpAt H H' (IQ<|Xs n.toNat<|XR ps ns) as->Q (.ref r) H')
theorem HM:FnScope ["web","ties","pieces","place","mark"] ["web","ties"] (Xt (top 30)):=WC B
theorem jW(T:Txt K mg t):Xf P w base Xo T.qZh 4 (spZh K t.A_Web):=by
 refine T.qZh.okI ["web","ties","pieces","place","mark"] B λXC A outer s H vs Q E hr h=>?_
 .obtain⟨w,a,n,ps,kd,ns,rfl,hW,hG,hS,hI,q⟩:=h;refine⟨_,(XQ (Zg (i:=2) HM.nd Z (Or.inl Z) rZ)
   (XQ (Va YQ Z (Gh K Z T.n_enumerate<|XY (XA (Qx T) hr T.qZg Zs<|XY (pv 0)<|XY (XA (HP T) hr T.qZe Zs<|XY (pv 0)<|XY (pv 1) XW) XW) XW) (Qj (n:=2) K Z<|Zw (Ze (i:=3) HM.nd Z<|Or.inl Z)<|Zw (Ze (i:=4) HM.nd Z<|Or.inl Z) Qo)
   (XN<|ZS<|UJ K YL NS NT ZU (UJ K gk EK PySem.F.type_dict_setdefault rh (pv 2)<|XY (pv 4)<|XY (ZZ XW) XW)<|XY (pv 3) XW))
   (XN<|Zi<|Zj (ZJ3 Z) uG T.n_list Boot.«list»<|XY (qR K gk gx PySem.F.type_dict_values ZC8<|pv 2) XW))),?_⟩
  intro d hd;have s0:Same H (upd H d<|.dK []):=XZ hd
  refine⟨_,Z,_,Z,_,Z,w,a,n,ps,kd,ns,Z,hW.same s0,hS.same s0,hI,λr H1 s1 Wj=>?_⟩;refine⟨w,r,n,ps,ns,Z,(hW.same s0).same s1,hG,Wj,hI.all,λm H2 s2 Td Wz=>?_⟩;have RX:Same H H2:=(s0.trans s1).trans s2
  have hd2:H2 d=some (.dK []):=s2 _ _ (s1 _ _ XS);have hl:(Xs n.toNat<|XR ps ns).length=n.toNat:=ZD _ _
  generalize hM:Xs n.toNat (XR ps ns)=M at *;have Ts:H m=none:=(s0.trans s1).free Td
  have n14:M.length<=14:=by have:=hG.2.1;grind
  refine⟨m,Z,⟨_,SqL.of Wz⟩,?_⟩;refine eV (K:=K) (a:=m) (xs:=IL M) (λi σ H3=>∃as v3 v4,σ=[some (.ref w),some<|.ref a,some<|.ref d,v3,v4]/\i<=M.length/\Same H H3/\H3 m=some (.lst<|IL M)/\H3 d=some (.dK<|Uy (Xp M i) as)/\d∉as/\m∉as/\GrpAt H H3 (Xp M i) as/\as.length<=i)
   ⟨[],none,none,Z,Yj _,RX,Wz,hd2,S,S,⟨Z,List.nodup_nil,λi kv a e=>by simp[Xp]at e,λa ha=>by simp at ha⟩,XJ _⟩ (λi σ H3 _ zz=>by obtain⟨_,_,_,_,_,_,h,_⟩:=zz;exact SqL.of h) ?_ ?_
  .rintro i x σ H3 pt RY hi ⟨as,v3,v4,rfl,VB,s3,Ot,Nn,wz,wy,gA,aw⟩;obtain⟨k,rfl,hk⟩:=WQ hi;have SY:mk M i=k:=ZW hk
   have Xj:i<M.length:=(Xr.mp hk).1;have s4:Same H3 (upd H3 pt<|.tup [.int i,.int k]):=XZ RY
   refine⟨pt,_,Z,SqT.of XS,Z,_,_,Z,_,_,Z,Z,?_⟩;refine⟨_,Z,.inr<|.inr<|.inl ⟨Z,.inl ⟨_,s4 _ _ Nn⟩⟩,_,Z,(by show 0<=sizeLine;exact Yj _),λl Qf=>?_⟩;have s5:Same H3 (upd (upd H3 pt<|.tup [.int i,.int k]) l<|.lst []):=Zq s4 Qf
   have av:=s5 _ _ Nn;have PY:H3 l=none:=s4.free Qf
   have jV:d≠l:=Za Nn PY;have gl:=gA.len
   refine⟨d,Uy (Xp M i) as,Sum.inl k,.ref l,Z,Z,av,?_,λv hv=>?_,λhv=>?_⟩
   .rw[Zu7 gl];exact Zl uE
   .-- the mark has XT list
    rcases qI (g:=Xp M i) (as:=as) (k:=k) gl with ⟨h1,_⟩|⟨j,kv,b,e1,e2,e3,e4⟩
    .rw[h1]at hv;cases hv
    .rw[e4]at hv;cases hv;have wx:=s5 _ _ (gA.at_ j kv b e1 e2)
     have wC:k∈(Xp M i).map (·.1):=Yz.mpr ⟨kv,Xi e1,e3⟩;have hlen:kv.2.length<=i:=qM (Xi e1)
     refine⟨.inl ⟨Z,_,SqL.of wx⟩,_,Z,b,_,.int i,Z,Z,wx,?_,?_⟩
     .rw[XD];exact Zl uE
     .have HL:b∈as:=Xi e2;have Sl:d≠b:=λz=>wz (z▸HL)
      have hmb:m≠b:=λz=>wy (z▸HL);have Mt:=gA.new b HL
      have Ki:(Xp M<|i+1).map (·.1)=(Xp M i).map (·.1):=by show(Sj (Xp M i) (i:Int)<|mk M i).map (·.1)=_;rw[xS,SY,if_pos wC]
      refine⟨as,_,_,Z,Xj,Zu Mt<|s3.trans s5,by rw[Zb hmb];exact s5 _ _ Ot,by rw[Zb Sl,av,eN Ki],wz,wy,⟨?_,gA.nd,?_,gA.new⟩,J⟩
      .have:=Xy List.length Ki
       rw[Yb,Yb]at this;lia
      .intro i2 wu a2 f1 f2;have f1:(Sj (Xp M i) (i:Int)<|mk M i)[i2]?=some wu:=f1
       unfold Sj at f1;rw[SY,if_pos wC,Yl]at f1;cases f3:(Xp M i)[i2]? with
       |none=>rw[f3]at f1;cases f1
       |some FE=>
        rw[f3]at f1;have f1:(if FE.1=k then (FE.1,FE.2++[(i:Int)]) else FE)=wu:=Ye f1
        by_cases hj:i2=j
        .subst hj;rw[e1]at f3;cases f3;rw[e2]at f2;cases f2;rw[if_pos e3]at f1;subst f1;rw[XS];simp
        .have Vw:a2≠b:=λz=>by subst z;exact hj (IU gA.nd f2 e2)
         have hkk:¬FE.1=k:=λz=>hj (IU (qN M i) (by rw[Yl,f3];exact Xy some z)<|by rw[Yl,e1];exact Xy some e3);rw[if_neg hkk]at f1;subst f1;rw[Zb Vw];exact s5 _ _ (gA.at_ i2 FE a2 f3 f2)
   .-- a new list
    rcases qI (g:=Xp M i) (as:=as) (k:=k) gl with ⟨h1,hkn⟩|⟨j,kv,b,e1,e2,e3,e4⟩
    .have PX:(upd (upd (upd H3 pt<|.tup [.int i,.int k]) l<|.lst []) d<|.dK<|Uy (Xp M i) as++[(Sum.inl k,.ref l)]) l=some (.lst []):=by rw[Zb (XI jV),XS]
     refine⟨.inl ⟨Z,_,SqL.of PX⟩,_,Z,l,[],.int i,Z,Z,PX,(by show 0<sizeLine;decide),?_⟩;have AL:H l=none:=s3.free PY
     have jU:l∉as:=λz=>by obtain⟨_,e⟩:=gA.mem z;rw[PY]at e;cases e
     have Nw:m≠l:=Za Ot PY;have hmd:m≠d:=MW Ot Nn (λz=>nomatch z)
     have jT:Xp M (i+1)=Xp M i++[(k,[(i:Int)])]:=by show Sj (Xp M i) (i:Int) (mk M i)=_;unfold Sj;rw[SY,if_neg hkn]
     have hdH:H d=none:=hd;refine⟨as++[l],_,_,Z,Xj,Zu AL<|Zu hdH<|s3.trans s5,by rw[Zb Nw,Zb hmd];exact s5 _ _ Ot,?_,?_,?_,⟨?_,?_,?_,?_⟩,?_⟩
     .rw[Zb jV,XS,jT,eM gl]
     .rw[XE,XG];rintro(z|z)
      .exact wz z
      .exact jV z
     .rw[XE,XG];rintro(z|z)
      .exact wy z
      .exact Nw z
     .rw[jT,Xu,Xu,gl];rfl
     .exact IT gA.nd jU
     .intro i2 wu a2 f1 f2;rw[jT]at f1;by_cases Wh:i2<(Xp M i).length
      .rw[Ys Wh]at f1;rw[Ys J]at f2;have e:=gA.at_ i2 wu a2 f1 f2
       have n1:a2≠l:=Za e PY;have n2:a2≠d:=MW e Nn (λz=>nomatch z)
       rw[Zb n1,Zb n2];exact s5 _ _ e
      .have h2:i2=(Xp M i).length:=by
        have:=(Xr.mp f1).1
        rw[Xu,Yu]at this;grind
       subst h2;rw[Yo (XJ _),Ve]at f1;rw[Yo J,gl,Ve]at f2;cases f1;cases f2;rw[XS];rfl
     .intro a2 ha2;rcases XE.mp ha2 with z|z
      .exact gA.new a2 z
      .rw[XG.mp z];exact AL
     .rw[Xu,Yu];lia
    .rw[e4]at hv;cases hv
  .rintro σ H3 ⟨as,v3,v4,rfl,VB,s3,Ot,Nn,wz,wy,gA,aw⟩;rw[XD]at Nn gA;refine⟨_,Z,.inr<|.inr<|.inl ⟨Z,.inl ⟨_,Nn⟩⟩,d,_,Z,Z,Nn,λp hp=>?_⟩;have s6:Same H3 (upd H3 p<|QT p d):=XZ hp
   refine⟨p,d,_,Z,XS,s6 _ _ Nn,λr Vu=>?_⟩;have s7:Same H3 (upd (upd H3 p<|QT p d) r (.lst ((Uy (Xp M M.length) as).map (·.2)))):=Zq s6 Vu
   refine q r as _ (s3.trans s7) ((s3.trans s6).free Vu) (by rw[XS,eO gA.len]) (λz=>?_) (gA.same s7);obtain⟨_,e⟩:=gA.mem z;rw[s6.free Vu]at e;cases e
inductive spZi(K:Ad)(C:Addr)(vs:List V)(H:Hp)(Q:VK)(_:XK):Prop
 |mk (w a n ps kd ns:_) (_:vs=[.ref w,.ref a]) (_:WebAt C H w n ps) (_:Zz n ps) (_:SqK kd K H a (IL ns)) (_:IsSet ps.length ns) (_:∀b H',Same H H'->(b=true↔(IQ<|Xs n.toNat<|XR ps ns).length=1)->Q (.bl b) H')
theorem jS(T:Txt K mg t):Xf P w base Xo T.qZi 5 (spZi K t.A_Web):=by
 refine T.qZi.okI ["web","ties"] B λXC A outer s H vs Q E hr h=>?_
 .obtain⟨w,a,n,ps,kd,ns,rfl,hW,hG,hS,hI,q⟩:=h;refine⟨_,(XN<|Zi<|Sn SH (Zd (Zk K) uG T.n_len Boot.«len»<|XY (XA (jW T) hr T.qZh Zs<|XY (pv 0)<|XY (pv 1) XW) XW) XO<|Zo _),?_⟩;refine⟨_,Z,_,Z,w,a,n,ps,kd,ns,Z,hW,hG,hS,hI,λr as H' s1 Vu Wj hnr gA=>?_⟩;refine⟨r,_,Z,.inl<|SqL.of Wj,Z,?_⟩;rw[Yb,gA.len,Zy];refine q _ H' s1 ?_;rw[YV];lia
inductive spZj(K:Ad)(C:Addr)(vs:List V)(H:Hp)(Q:VK)(_:XK):Prop
 |mk (w b n ps ws:_) (_:vs=[.ref w,.ref b]) (_:WebAt C H w n ps) (_:Zz n ps) (_:SqL K H b (IL ws)) (_:ws.length=ps.length) (_:∀r ys L H',Same H H'->H r=none->TabAt H r n.toNat H' ys L->(∀i j,i<n.toNat->j<n.toNat->fnL L i j=lapE (Vv ps ws) i j)->Q (.ref r) H')
theorem au(x:V)(k:Nat):(List.replicate k [x]).flatten=List.replicate k x:=by
 induction k with
 |zero=>rfl
 |succ k ih=>rw[JX,EY,ih,JX];rfl
theorem jR(n i j:Nat):fnL (List.replicate n (List.replicate n 0)) i j=0:=by
 unfold fnL;cases h:(List.replicate n<|List.replicate n (0:Int))[i]? with
 |none=>
  have e:(List.replicate n<|List.replicate n (0:Int)).getD i []=[]:=by rw[Ya,h];rfl
  rw[e];rfl
 |some l=>
  have e:(List.replicate n<|List.replicate n (0:Int)).getD i []=l:=by rw[Ya,h];rfl
  rw[e,y9<|Xi h,Ya,y8];split<;>rfl
theorem TabAt.get{H0 H:Hp}{r:Addr}{n:Nat}{ys:List V}{L:Ab}(h:TabAt H0 r n H ys L){i j:Nat}(hi:i<n)(hj:j<n):∃A l x,ys[i]?=some (.ref A)/\H A=some (.lst (IL l))/\l[j]?=some x/\l.length=n/\x=fnL L i j/\H0 A=none/\∀y:Int,∃L':Ab,TabAt H0 r n (upd H A (.lst ((IL l).set j (.int y)))) ys L'/\∀a b,fnL L' a b=if a=i/\b=j then y else fnL L a b:=by
 obtain⟨A,l,y1,z1,hA,hl,hn,hr⟩:=h.at hi;obtain⟨x,hx⟩:∃x,l[j]?=some x:=⟨_,Xw J⟩;refine⟨A,l,x,y1,hA,hx,hl,(Uw z1 hx).symm,hn,λy=>⟨L.set i<|l.set j y,?_,nP z1 J⟩⟩;have e:(IL l).set j (.int y)=IL (l.set j y):=(List.map_set ..).symm
 rw[e];exact h.put y1 z1 hr (by rwa[Tp])
theorem wq{xs:List V}{i:Int}(h0:0<=i)(h1:i<(xs.length:Int)):Pp xs.length i=some i.toNat:=by unfold Pp;rw[if_pos h0,if_pos uD]
theorem Oq:FnScope ["web","weights","table","ends","weight","one","other"] ["web","weights"] (Xt (top 33)):=WC B
theorem jQ(T:Txt K mg t):Xf P w base Xo T.qZj 1 (spZj K t.A_Web):=by
 refine T.qZj.okI ["web","weights","table","ends","weight","one","other"] B λXC A outer s H vs Q E hr h=>?_
 .obtain⟨w,b,n,ps,ws,rfl,hW,hG,hS,DG,q⟩:=h;refine⟨_,(XQ (Uz (i:=2) Z Oq.nd Z Z (sc0:=Xt<|top 33) (N0:=["web","weights","table","ends","weight","one","other"]) (N':=["place","web"]) (o:=1) (fr:=[0]) ⟨Z,B,B,B,Z,B⟩ (ZP Z T.n_range<|XY (Zp K (pv 0) Z) XW) (Zt uB) (λ_ _ _ _=>(Ze (i:=0) (show List.Nodup (["place","web"]:List Str) by decide +kernel) Z<|Or.inl Z)) (λ_ _ _ _=>ZR) λ_ _ _ _=>(Zr DI (ZZ<|XY XO XW)<|Zp K (pv 1) Z))
   (XQ (Va YQ Z (CC K Z T.n_zip<|XY (Zp K (pv 0) Z)<|XY (pv 1) XW) (Qj (n:=2) K Z<|Zw (Ze (i:=3) Oq.nd Z<|Or.inl Z)<|Zw (Ze (i:=4) Oq.nd Z<|Or.inl Z) Qo)
   (XQ (Zg (i:=5) Oq.nd Z (Or.inl Z)<|ZC (ZK K) (pv 3) XO λ_ _=>rfl)
   (XQ (Zg (i:=6) Oq.nd Z (Or.inl Z)<|ZC (ZK K) (pv 3) XO λ_ _=>rfl)
   (XN (Xx (Zh Ub (pv 5) (pv 6)<|Zo _)
   (XQ (yn (ZC (Zc K) (pv 2) (pv 5) λ_ _=>rfl) (pv 5) (xk K) (pv 4) Em Jj)
   (XQ (yn (ZC (Zc K) (pv 2) (pv 6) λ_ _=>rfl) (pv 6) (xk K) (pv 4) Em Jj)
   (XQ (yn (ZC (Zc K) (pv 2) (pv 5) λ_ _=>rfl) (pv 6) (xk K) (pv 4) Ju Jj)
   (XN<|yn (ZC (Zc K) (pv 2) (pv 6) λ_ _=>rfl) (pv 5) (xk K) (pv 4) Ju Jj))))
   Zm)))))
   (XN<|Zi<|pv 2))),?_⟩
  obtain⟨dx,tl,xs,h1,h2,h3⟩:=id hW;have hl:=h3.1
  obtain⟨g1,g2,g3,g4⟩:=id hG;have one:1<=sizeLine:=uB
  refine⟨_,Z,w,_,dx,_,_,Z,h1,T.cl_Web,T.n_Web_places,IW _ _,n,Z,J,J,xY (lo:=0) (n:=n.toNat) (λi zs H2=>Same H H2/\Bears (QQ H2) zs (List.replicate i<|List.replicate n.toNat 0)/\zs.Nodup/\∀A,V.ref A∈zs->H A=none/\∃o,H2 A=some o) ⟨Same.refl _,⟨Z,λi l e=>by simp at e⟩,.nil,λA h=>(by cases h)⟩ (Zl J) (λi zs H2 _ zz=>by obtain⟨_,e,_⟩:=zz;rw[e.1,YN];exact XJ _) ?_ ?_⟩
  .rintro i zs H2 hi ⟨s2,hZ,TR,QV⟩ uz Xk;refine nm ?_;refine⟨one,λp1 UO=>?_⟩;have u1:=XZ (o:=.lst [.int 0]) UO
   refine⟨_,Z,w,_,dx,_,_,Z,u1 _ _<|s2 _ _ h1,T.cl_Web,T.n_Web_places,IW _ _,p1,n,_,Z,Z,XS,J,J,TY (by show 1*n.toNat<=_;lia),λp2 VO=>?_⟩;have e0:(List.replicate n.toNat [V.int 0]).flatten=IL (List.replicate n.toNat 0):=by rw[au];show _=(List.replicate n.toNat 0).map V.int;rw[List.map_replicate]
   rw[e0];have u2:=u1.trans (XZ (o:=.lst<|IL<|List.replicate n.toNat 0) VO)
   have AK:H2 p2=none:=(XZ UO).free VO;refine Xk _ _ ⟨s2.trans u2,?_,?_,λA hA=>?_⟩
   .rw[List.replicate_succ'];exact(hZ.imp λ_ _ zz=>by obtain⟨r',e,h⟩:=zz;exact⟨r',e,u2 _ _ h⟩).snoc ⟨p2,Z,XS⟩
   .refine YM.mpr ⟨TR,S,λx hx y hy e=>?_⟩;rw[XG.mp hy]at e;obtain⟨_,o,ho⟩:=QV p2 (e▸hx);rw[AK]at ho;cases ho
   .rcases XE.mp hA with e|e
    .obtain⟨a1,o,a2⟩:=QV A e;exact⟨a1,o,u2 _ _ a2⟩
    .have e':A=p2:=by simpa using e
     rw[e'];exact⟨s2.free AK,_,XS⟩
  rintro zs H2 ⟨s2,hZ,TR,QV⟩ tA Rv;have s3:=s2.trans (XZ (o:=.lst zs) Rv)
  have jP:H tA=none:=s2.free Rv;have hT:TabAt H tA n.toNat (upd H2 tA<|.lst zs) zs (List.replicate n.toNat<|List.replicate n.toNat 0):=⟨XS,hZ.imp λ_ _ zz=>by obtain⟨r',e,h⟩:=zz;exact⟨r',e,XZ Rv _ _ h,Za h Rv⟩,YN,λl h=>by rw[y9 h];exact YN,TR,λA h=>(QV A h).1⟩
  have hzero:∀i j,fnL (List.replicate n.toNat<|List.replicate n.toNat 0) i j=0:=λi j=>by
   have:=jR n.toNat i j
   exact this
  generalize upd H2 tA (.lst zs)=H3 at *;generalize List.replicate n.toNat (List.replicate n.toNat (0:Int))=L0 at *;refine⟨_,Z,w,_,dx,_,_,Z,s3 _ _ h1,T.cl_Web,T.n_Web_ties,Pe _ _,_,Z,tl,b,Z,⟨_,_,SqL.of<|s3 _ _ h2,s3.seq hS⟩,nQ (K:=K) (a:=tl) (b:=b) (xs:=xs) (ys:=IL ws) (by rw[XD];lia) (λi σ H4=>∃L v3 v4 v5 v6,σ=[some (.ref w),some<|.ref b,some<|.ref tA,v3,v4,v5,v6]/\Same H H4/\TabAt H tA n.toNat H4 zs L/\∀x y,x<n.toNat->y<n.toNat->fnL L x y=lapE (Vv (ps.take i)<|ws.take i) x y) ⟨L0,none,none,none,none,Z,s3,hT,λx y _ _=>hzero x y⟩ (λi σ H4 _ zz=>by obtain⟨_,_,_,_,_,_,e,_⟩:=zz;exact⟨SqL.of<|e _ _ h2,e.seq hS⟩) ?_ ?_⟩
  .rintro i v v' σ H4 pt RY hi QO ⟨L,v3,v4,v5,v6,rfl,s4,jO,Oo⟩;obtain⟨p,hp,tt,rfl,Us⟩:=h3.at hi;obtain⟨wt,rfl,hwt⟩:=WQ QO;obtain⟨e1,e2,e3,e4⟩:=g4 p (Xi hp);have u1:=XZ (o:=.tup [.ref tt,.int wt]) RY
   refine⟨pt,_,Z,SqT.of XS,Z,_,_,Z,_,_,Z,Z,?_⟩;have jN:=jO.same u1
   have s5:=s4.trans u1;generalize upd H4 pt (.tup [.ref tt,.int wt])=H5 at *;refine⟨_,Z,tt,_,0,.int p.1,Z,Z,SqT.of<|s5 _ _ Us,Z,?_⟩;refine⟨_,Z,tt,_,1,.int p.2,Z,Z,SqT.of<|s5 _ _ Us,Z,?_⟩;refine⟨_,Z,_,Z,Z,_,Z,?_⟩;rw[Zy];have aq:=nO hp hwt
   refine WK (λheq=>?_) (λXH=>?_)
   .refine⟨L,_,_,_,_,Z,s5,jN,λx y hx hy=>?_⟩;rw[aq,c5 (by show p.1.toNat=p.2.toNat;rw[heq])];exact Oo x y hx hy
   have IK:p.1.toNat≠p.2.toNat:=λe=>XH uE;obtain⟨A1,l1,x1,y1,OY,hx1,Ui,oQ,AJ,jM⟩:=jN.get (i:=p.1.toNat) (j:=p.1.toNat) uE J;refine⟨_,Z,_,Z,tA,zs,p.1,.ref A1,Z,Z,SqL.of jN.tab,Zv (n:=p.1.toNat) J y1,_,Z,A1,_,p.1,.int x1,Z,Z,SqL.of OY,J,UX hx1,_,Z,_,_,Z,Z,A1,_,p.1,p.1.toNat,Z,Z,OY,wq J (by rw[XD];grind),?_⟩;obtain⟨L1,ak,wm⟩:=jM (x1+wt);have s6:Same H (upd H5 A1<|.lst<|(IL l1).set p.1.toNat (.int<|x1+wt)):=Zu AJ s5
   generalize upd H5 A1 (.lst<|(IL l1).set p.1.toNat (.int<|x1+wt))=H6 at *;rw[oQ]at wm;obtain⟨A2,l2,x2,y2,Tw,jL,SD,ex2,NJ,put2⟩:=ak.get (i:=p.2.toNat) (j:=p.2.toNat) uE J;refine⟨_,Z,_,Z,tA,zs,p.2,.ref A2,Z,Z,SqL.of ak.tab,Zv (n:=p.2.toNat) J y2,_,Z,A2,_,p.2,.int x2,Z,Z,SqL.of Tw,J,UX jL,_,Z,_,_,Z,Z,A2,_,p.2,p.2.toNat,Z,Z,Tw,wq J (by rw[XD];grind),?_⟩;obtain⟨L2,aj,Me⟩:=put2 (x2+wt);have s7:Same H (upd H6 A2<|.lst<|(IL l2).set p.2.toNat (.int<|x2+wt)):=Zu NJ s6
   generalize upd H6 A2 (.lst<|(IL l2).set p.2.toNat (.int<|x2+wt))=H7 at *;rw[ex2]at Me;obtain⟨A3,l3,x3,y3,MC,hx3,PY,ex3,hn3,put3⟩:=aj.get (i:=p.1.toNat) (j:=p.2.toNat) uE uE;refine⟨_,Z,_,Z,tA,zs,p.1,.ref A3,Z,Z,SqL.of aj.tab,Zv (n:=p.1.toNat) J y3,_,Z,A3,_,p.2,.int x3,Z,Z,SqL.of MC,J,UX hx3,_,Z,_,_,Z,Z,A3,_,p.2,p.2.toNat,Z,Z,MC,wq J (by rw[XD];grind),?_⟩;obtain⟨L3,ai,ah⟩:=put3 (x3-wt);have s8:Same H (upd H7 A3<|.lst<|(IL l3).set p.2.toNat (.int<|x3-wt)):=Zu hn3 s7
   generalize upd H7 A3 (.lst<|(IL l3).set p.2.toNat (.int<|x3-wt))=H8 at *;rw[ex3]at ah;obtain⟨A4,l4,x4,y4,Kh,wk,ag,ex4,jK,jJ⟩:=ai.get (i:=p.2.toNat) (j:=p.1.toNat) uE uE;refine⟨_,Z,_,Z,tA,zs,p.2,.ref A4,Z,Z,SqL.of ai.tab,Zv (n:=p.2.toNat) J y4,_,Z,A4,_,p.1,.int x4,Z,Z,SqL.of Kh,J,UX wk,_,Z,_,_,Z,Z,A4,_,p.1,p.1.toNat,Z,Z,Kh,wq J (by rw[XD];grind),?_⟩;obtain⟨L4,hT9,wj⟩:=jJ (x4-wt);have s9:Same H (upd H8 A4<|.lst<|(IL l4).set p.1.toNat (.int<|x4-wt)):=Zu jK s8
   generalize upd H8 A4 (.lst<|(IL l4).set p.1.toNat (.int<|x4-wt))=H9 at *;rw[ex4]at wj;refine⟨L4,_,_,_,_,Z,s9,hT9,λx y hx hy=>?_⟩;rw[aq,oj,<-Oo x y hx hy];exact four IK x y wm Me ah wj
  .rintro σ H4 ⟨L,v3,v4,v5,v6,rfl,s4,jO,Oo⟩;rw[hl,YD,<-DG,YD]at Oo;exact⟨_,Z,q tA zs L H4 s4 jP jO Oo⟩
inductive spZk(K:Ad)(C:Addr)(vs:List V)(H:Hp)(Q:VK)(_:XK):Prop
 |mk (w n ps:_) (_:vs=[.ref w]) (_:WebAt C H w n ps) (_:Zz n ps) (_:∀r ys L H',Same H H'->H r=none->TabAt H r n.toNat H' ys L->(∀i j,i<n.toNat->j<n.toNat->fnL L i j=lapE (Vv ps<|List.replicate ps.length 1) i j)->Q (.ref r) H')
theorem jI(T:Txt K mg t):Xf P w base Xo T.qZk 2 (spZk K t.A_Web):=by
 refine T.qZk.okI ["web"] B λXC A outer s H vs Q E hr h=>?_
 .obtain⟨w,n,ps,rfl,hW,hG,q⟩:=h;refine⟨_,(XN<|Zi<|XA (jQ T) hr T.qZj Zs<|XY (pv 0)<|XY (Zr DI (ZZ<|XY XO XW)<|Zd (Zk K) uG T.n_len Boot.«len»<|XY (Zp K (pv 0) Z) XW) XW),?_⟩;obtain⟨dx,tl,xs,h1,h2,h3⟩:=id hW;have hl:=h3.1
  have g3:=hG.2.2.1;refine⟨_,Z,(by show 1<=sizeLine;decide),λp1 UO=>?_⟩;have u1:=XZ (o:=.lst [.int 1]) UO
  refine⟨_,Z,w,_,dx,_,_,Z,u1 _ _ h1,T.cl_Web,T.n_Web_ties,Pe _ _,tl,xs,Z,.inl<|SqL.of<|u1 _ _ h2,p1,(xs.length:Int),_,Z,Z,XS,J,J,TY (by show 1*_<=_;lia),λp2 VO=>?_⟩;have e0:(List.replicate (xs.length:Int).toNat [V.int 1]).flatten=IL (List.replicate ps.length 1):=by
   rw[YA,hl,au];show _=(List.replicate ps.length 1).map V.int
   rw[List.map_replicate]
  rw[e0];have u2:=u1.trans (XZ (o:=.lst<|IL<|List.replicate ps.length 1) VO)
  refine⟨w,p2,n,ps,List.replicate ps.length 1,Z,hW.same u2,hG,SqL.of XS,YN,λr ys L H' s hr hT hf=>?_⟩;exact q r ys L H' (u2.trans s) (u2.free hr) ⟨hT.tab,hT.rows,hT.len,hT.all,hT.nd,λA h=>u2.free<|hT.new A h⟩ hf
inductive spZl(K:Ad)(C:Addr)(vs:List V)(H:Hp)(Q:VK)(_:XK):Prop
 |mk (w n ps:_) (_:vs=[.ref w]) (_:WebAt C H w n ps) (_:Zz n ps) (_:∀c H',TC n ps c->Same H H'->Q (.int c) H')
theorem af(u v i:Nat):(ind u v i).natAbs<=1:=by unfold ind;split<;>split<;>decide
theorem ae:∀{E:List Ed},(∀e∈E,e.2.2=1)->∀i j,(lapE E i j).natAbs<=E.length
 |[],_,i,j=>XJ 0
 |e::E,h,i,j=>by
  have ih:=ae (λf hf=>h f<|Yf _ hf) i j;have h1:=af e.1 e.2.1 i
  have h2:=af e.1 e.2.1 j;have h3:(ind e.1 e.2.1 i*ind e.1 e.2.1 j).natAbs<=1:=by rw[uS];exact JS h1 h2
  show(e.2.2*(ind e.1 e.2.1 i*ind e.1 e.2.1 j)+lapE E i j).natAbs<=(e::E).length;rw[h e Xd,Sv,Yt]
  have:=Int.natAbs_add_le (ind e.1 e.2.1 i*ind e.1 e.2.1 j) (lapE E i j)
  lia
theorem ab{α:Type}{l:List α}{i:Nat}(hi:l.length=i+1):cutz l (i:Int)=l.take i:=by unfold cutz;rw[YA,LL J,YI]
theorem Om(T:Txt K mg t):Xf P w base Xo T.qZl 3 (spZl K t.A_Web):=by
 refine T.qZl.okI ["web"] B λXC A outer s H vs Q E hr h=>?_
 .obtain⟨w,n,ps,rfl,hW,hG,q⟩:=h;refine⟨_,(XN<|Zi<|XA (ki T) hr T.qZ3 Zs<|XY (XA (j7 T) hr T.qZ5 Zs<|XY (XA (jI T) hr T.qZk Zs<|XY (pv 0) XW)<|XY (Zr SI (Zp K (pv 0) Z) XO) XW) XW),?_⟩;obtain⟨g1,g2,g3,g4⟩:=id hG;refine⟨_,Z,w,n,ps,Z,hW,hG,λr ys L H1 s1 hr hT hf=>?_⟩;obtain⟨dx,tl,xs,h1,h2,h3⟩:=id hW;refine⟨_,Z,w,_,dx,_,_,Z,s1 _ _ h1,T.cl_Web,T.n_Web_places,IW _ _,_,_,Z,Z,?_⟩;obtain⟨k,hk⟩:∃k:Nat,n-1=(k:Int):=⟨(n-1).toNat,uD⟩;have hnk:n.toNat=k+1:=uE
  have az:=hT.len;have hTB:Bears (QQ H1) ys L:=hT.rows.imp λ_ _ h=>h.list
  refine⟨r,ys,L,k,?_,SqL.of hT.tab,hTB,uE,λl h=>by rw[hT.all l h];grind,J,λr2 zs H2 s2 Wa hZ=>?_⟩
  .show [V.ref r,V.int (n-1)]=_;rw[hk]
  have w1:∀e∈Vv ps (List.replicate ps.length (1:Int)),e.2.2=1:=λe he=>by
   unfold Vv at he;obtain⟨i,hi⟩:=VX he;rw[LK]at hi;cases h1:ps[i]? with
   |none=>rw[h1]at hi;cases hi
   |some p=>
    cases h2:(List.replicate ps.length (1:Int))[i]? with
    |none=>rw[h1,h2]at hi;cases hi
    |some w=>
     rw[h1,h2]at hi;obtain rfl:=Ye hi;exact y9 (Xi h2)
  have el:(Vv ps<|List.replicate ps.length (1:Int)).length<=30:=by unfold Vv;rw[Nj,YN];lia
  have hM:(cutz L (k:Int)).map (λl=>cutz l (k:Int))=(L.take k).map λl=>l.take k:=by rw[ab J];exact VW λl hl=>ab (by rw[hT.all l (Ff hl)];lia)
  rw[hM]at hZ;have PV:((L.take k).map λl=>l.take k).length=k:=by rw[Yb,Yn];grind
  have Gv:∀i j,i<k->j<k->fnL ((L.take k).map λl=>l.take k) i j=lapE (Vv ps<|List.replicate ps.length 1) i j:=λi j hi hj=>by
   rw[<-hf i j uE uE];obtain⟨l,hl⟩:∃l,L[i]?=some l:=⟨_,Xw uE⟩;have Vg:=hT.all l (Xi hl)
   obtain⟨x,hx⟩:∃x,l[j]?=some x:=⟨_,Xw uE⟩;rw[Uw hl hx];exact Uw (l:=l.take k) (by rw[Yl,GQ,if_pos hi,hl];rfl) (by rwa[GQ,if_pos hj])
  refine⟨r2,false,zs,(L.take k).map λl=>l.take k,Z,SqL.of Wa,hZ.imp (λ_ _ zz=>by obtain⟨r',e,h⟩:=zz;exact⟨r',false,e,SqL.of h⟩),by rw[PV];lia,λi j hi hj=>?_,λ_ H3 s3=>?_,λh=>absurd (λl hl=>?_) h⟩
  .rw[PV]at hi hj;rw[Gv i j hi hj];exact Yv (ae w1 i j) (Yv el<|Yv (by decide:30<=2^5)<|vy uB uB)
  .have hd:det ((L.take k).map λl=>l.take k).length (fnL<|(L.take k).map λl=>l.take k)=det (n-1).toNat (lapE<|Vv ps<|List.replicate ps.length 1):=by rw[PV,show(n-1).toNat=k by lia];exact Zn λi j hi hj=>Gv i j hi hj
   obtain⟨c,M,a1,a2,a3⟩:∃c,TC n ps c:=by obtain⟨M,a1,a2,_⟩:=xm _ (n-1).toNat (Vv ps<|List.replicate ps.length 1) Z (Cq hG _);exact⟨M.length,M,a1,λl=>by rw[a2,cZ g1 YN],Z⟩
   rw[hd,nR hG a1 a2,a3];exact q c H3 ⟨M,a1,a2,a3⟩ (s1.trans<|s2.trans s3)
  .obtain⟨l0,h0,rfl⟩:=Yz.mp hl;rw[PV,Yn,hT.all l0 (Ff h0)];grind
inductive spZm(K:Ad)(C:Addr)(vs:List V)(H:Hp)(Q:VK)(_:XK):Prop
 |mk (w a b n ps Is Os:_) (_:vs=[.ref w,.ref a,.ref b]) (_:WebAt C H w n ps) (_:Zz n ps) (_:SqT K H a (IL Is)) (_:SqT K H b (IL Os)) (_:Is.Nodup) (_:(∀z∈Is,0<=z/\z<(ps.length:Int))) (_:Os.length<=30) (_:(∀z∈Is,z∉Os)) (_:∀c H',PC n ps Is Os c->Same H H'->Q (.int c) H')
theorem wg{K:Ad}{H:Hp}{a b:Addr}{l m:Ac}{Q:VK}(ha:SqT K H a (IL l))(hb:SqT K H b (IL m))(hl:l.length+m.length<=1000)(k:∀r H',Same H H'->SqT K H' r (IL (l++m))->Q (.ref r) H'):rCatU K (.ref a) (.ref b) H Q:=by
 refine⟨a,b,_,_,Z,Z,ha,hb,by rw[XD,XD];exact Yv hl uB,λe=>?_,λ_ e=>?_,λ_ _ p hp=>?_⟩
 .have el:l=[]:=JW.mp e;rw[el,Ng]at k;exact k b H (Same.refl _) hb
 .have em:m=[]:=JW.mp e;rw[em,YI]at k;exact k a H (Same.refl _) ha
 .refine k p _ (XZ hp) (SqT.of ?_);rw[XS,Dx]
theorem aa{gone:Ac}(j:Nat):XB (j+1) gone=XB j gone++(if ((j:Int)∈gone) then [] else [(j:Int)]):=by
 unfold XB;rw[dQ,Qs];congr 1;by_cases c:(j:Int)∈gone
 .rw[if_pos c,YT,if_neg (by simp[c])];rfl
 .rw[if_neg c,YT,if_pos (by simp[c])];rfl
theorem Ol:FnScope ["web","inside","outside","marks","firsts","numbers","gone","free"] ["web","inside","outside"] (Xt (top 36)):=WC B
theorem Md(T:Txt K mg t):Xf P w base Xo T.qZm 4 (spZm K t.A_Web):=by
 refine T.qZm.okI ["web","inside","outside","marks","firsts","numbers","gone","free"] B λXC A outer s H vs Q E hr h=>?_
 .obtain⟨w,a,b,n,ps,Is,Os,rfl,hW,hG,hA,hB,hIn,Xm,hO,VZ,q⟩:=h;refine⟨_,(XQ (Zg (i:=3) Ol.nd Z (Or.inl Z)<|XA (Qx T) hr T.qZg Zs<|XY (pv 0)<|XY (pv 1) XW)
   (XQ (Zg (i:=4) Ol.nd Z (Or.inr Z)<|ZD4 K Z Z T.n_sorted Z T.n_set<|XY (pv 3) XW)
   (XQ (Xx (Zh MP (Zr UM (Zd (Zk K) uG T.n_len Boot.«len»<|XY (pv 4) XW)<|Zd (Zk K) uG T.n_len Boot.«len»<|XY (pv 1) XW) (Zp K (pv 0) Z)<|Zo _)
   (XN<|Zi XO)
   Zm)
   (XQ (Zg (i:=5) Ol.nd Z (Or.inr Z)<|WG Z (sc0:=Xt<|top 36) (N0:=["web","inside","outside","marks","firsts","numbers","gone","free"]) (N':=["mark","firsts"]) (o:=1) (fr:=[4]) ⟨Z,B,B,B,Z,B⟩ (ZQ K<|pv 3) (Zt uB) (λ_ _ _ _=>(Ze (i:=0) (show List.Nodup (["mark","firsts"]:List Str) by decide +kernel) Z<|Or.inl Z)) (λ_ _ _ _=>ZR) λ_ _ _ _=>(UJ K YL gm gn (ZF8 K) (pv 1)<|XY (pv 0) XW))
   (XQ (Zg (i:=6) Ol.nd Z (Or.inr Z)<|Zr (OX K) (pv 1)<|pv 2)
   (XQ (Uz (i:=7) Z Ol.nd Z Z (sc0:=Xt<|top 36) (N0:=["web","inside","outside","marks","firsts","numbers","gone","free"]) (N':=["tie","ends","gone"]) (o:=2) (fr:=[6]) ⟨Z,B,B,B,Z,B⟩ (Gh K Z T.n_enumerate<|XY (Zp K (pv 0) Z) XW) (Pl<|NH uB<|NH uB Pm) (λ_ _ _ _=>(Qj (n:=2) K Z<|Zw (Ze (i:=0) (show List.Nodup (["tie","ends","gone"]:List Str) by decide +kernel) Z<|Or.inl Z)<|Zw (Ze (i:=1) (show List.Nodup (["tie","ends","gone"]:List Str) by decide +kernel) Z<|Or.inl Z) Qo)) (λ_ _ _ _=>(Qm<|Zh (Gk K) (pv 0) (pv 2) Z)) λ_ _ _ _=>(pv 1))
   (XN<|Zi<|XA (Om T) hr T.qZl Zs<|XY (Pr T.k_Web (AS T) (hr.mono uB) Z T.c_Web T.bZ8 .nil Zs<|XY (Zd (Zk K) uG T.n_len Boot.«len»<|XY (pv 4) XW)<|XY (WG Z (sc0:=Xt<|top 36) (N0:=["web","inside","outside","marks","firsts","numbers","gone","free"]) (N':=["ends","numbers"]) (o:=1) (fr:=[5]) ⟨Z,B,B,B,Z,B⟩ (ZQ K<|pv 7) (Zt uB) (λ_ _ _ _=>(Ze (i:=0) (show List.Nodup (["ends","numbers"]:List Str) by decide +kernel) Z<|Or.inl Z)) (λ_ _ _ _=>ZR) λ_ _ _ _=>(WN<|XY (ZC (Zc K) (pv 1) (ZC (ZK K) (pv 0) XO λ_ _=>rfl) λ_ _=>rfl)<|XY (ZC (Zc K) (pv 1) (ZC (ZK K) (pv 0) XO λ_ _=>rfl) λ_ _=>rfl) XW)) XW) XW))))))),?_⟩
  obtain⟨g1,g2,g3,g4⟩:=id hG;obtain⟨Js,Nm,hJ2⟩:=pO Is;have hJ:IsSet ps.length Js:=XX.mpr ⟨λz hz=>Xm z<|Nm.mem_iff.mp hz,(hJ2.and<|Nm.nodup_iff.mpr hIn).imp λh=>by have:=h.1;have:=h.2;lia⟩
  have hIl:Is.length<=ps.length:=by rw[<-Nm.length_eq];exact hJ.len
  have Ih:∀i j,Conn (XR ps Js) i j↔Conn (XR ps Is) i j:=λi j=>TX λy=>Nm.mem_iff;have hfr:XB ps.length (Js++Os)=XB ps.length (Is++Os):=LH λz _=>by simp only[XE,Nm.mem_iff]
  have back:∀c,PC n ps Js Os c->PC n ps Is Os c:=λc zz=>by obtain⟨L,l1,l2,l3⟩:=zz;exact⟨L,l1,λl=>(l2 l).trans ⟨λh=>⟨h.1,λz hz=>h.2.1 z<|Nm.mem_iff.mpr hz,h.2.2⟩,λh=>⟨h.1,λz hz=>h.2.1 z<|Nm.mem_iff.mp hz,h.2.2⟩⟩,l3⟩
  refine⟨_,Z,_,Z,w,a,n,ps,Is,Z,hW,hG,hA,Xm,λmA H1 s1 Ts Td=>?_⟩;have UL:=ZD n.toNat (XR ps Is)
  have WE:=ZO (ns:=Is) hG Xm;have hel:(XR ps Is).length=Is.length:=Yb ..
  refine nm ?_;refine⟨_,Z,mA,_,Z,SqL.of Td,uE,λF hF Vn fA hfA=>?_⟩;have s2:=XZ (o:=.lst<|IL F) hfA
  have Me:(upd H1 fA<|.lst<|IL F) fA=some (.lst<|IL F):=XS;have Wz:=s2 _ _ Td
  have RX:=s1.trans s2;refine nm ?_;dsimp only;generalize upd H1 fA (.lst<|IL F)=H2 at *;obtain⟨g,hfg,jH,hgg⟩:=mE WE hF Vn;obtain⟨k1,kn,nk⟩:=ZL4 WE J hF Vn;have Tw:=ZG RX hA
  have MB:=ZG RX hB;obtain⟨dx,tl,xs,h1,h2,h3⟩:=hW.same RX;have RH:=h3.1
  refine⟨_,Z,fA,_,Z,.inl<|SqL.of Me,_,Z,a,_,Z,.inr Tw,_,_,Z,Z,_,Z,w,_,dx,_,_,Z,h1,T.cl_Web,T.n_Web_places,IW _ _,_,_,Z,Z,_,Z,?_⟩;rw[XD,XD];refine Xh (λhc=>?_) (λhc=>?_)
  .exact q 0 H2 (back 0<|mJ hG hJ (λi j hi hj=>(hfg i j hi hj).trans (Ih i j).symm) jH hgg k1 kn<|by rw[Nm.length_eq];lia) RX
  refine⟨_,Z,mA,Z,⟨_,SqL.of Wz⟩,QR (K:=K) (a:=mA) (xs:=IL<|Xs n.toNat<|XR ps Is) (λi zs H3=>H3=H2/\i<=n.toNat/\zs=IL (((Xs n.toNat<|XR ps Is).take i).map λz=>(UP F z:Int))) ⟨Z,Yj _,Z⟩ (Zl<|by rw[XD,UL];grind) (λi zs H3 _ zz=>by obtain⟨e,hi,ez⟩:=zz;exact⟨e▸SqL.of Wz,by rw[ez,XD,Yb,Yn];lia⟩) ?_ ?_⟩
  .rintro i v zs H3 hi ⟨rfl,hin3,rfl⟩ uz Xk;obtain⟨z,rfl,hz⟩:=WQ hi;have FX:z∈F:=(Vn z).mpr (Xi hz)
   have Xn:=(Xr.mp hz).1;refine nm ?_;refine⟨_,Z,.inl ⟨Z,_,SqL.of Me⟩,_,Z,fA,F,z,UP F z,Z,Z,SqL.of Me,Iq FX,λi hi e=>by have:=IU (MF hF) e (Iq FX);lia,Xk _ _ ⟨Z,J,?_⟩⟩;rw[YJ,hz,YG];exact(ZE _ _).symm
  rintro zs H3 ⟨rfl,_,rfl⟩ nA hnA;rw[XD,YD];have s3:=XZ (o:=.lst<|IL<|(Xs n.toNat<|XR ps Is).map λz=>(UP F z:Int)) hnA
  have jK:(upd H3 nA<|.lst<|IL<|(Xs n.toNat<|XR ps Is).map λz=>(UP F z:Int)) nA=some (.lst<|IL<|(Xs n.toNat<|XR ps Is).map λz=>(UP F z:Int)):=XS;have wj:=s3 _ _ Me
  have Kh:=ZG s3 Tw;have jG:=ZG s3 MB
  have AI:=RX.trans s3;generalize upd H3 nA (.lst<|IL<|(Xs n.toNat<|XR ps Is).map λz=>(UP F z:Int))=H4 at *;have nAt:∀x:Int,0<=x->x<n->((Xs n.toNat<|XR ps Is).map λz=>(UP F z:Int))[x.toNat]?=some (UP F (mk (Xs n.toNat<|XR ps Is) x.toNat):Int):=λx x0 x1=>by rw[Yl,Xw uE];unfold mk;rw[Ya,Xw uE];rfl
  refine nm ?_;refine⟨_,Z,_,Z,wg Kh jG J λgA H5 s5 hg5=>?_⟩;have AH:=AI.trans s5
  obtain⟨dx,tl,xs,h1,h2,h3⟩:=hW.same AH;have RH:=h3.1
  refine nm ?_;refine⟨_,Z,w,_,dx,_,_,Z,h1,T.cl_Web,T.n_Web_ties,Pe _ _,tl,Z,⟨_,SqL.of h2⟩,xH (K:=K) (a:=tl) (xs:=xs) (λj zs H6=>Same H5 H6/\j<=ps.length/\PairsV H6 zs ((XB j<|Is++Os).map λz=>ps.getD z.toNat (0,0))) ⟨Same.refl _,Yj _,PairsV.nil⟩ (Zl J) (λj zs H6 hj ⟨e,Qg,ez⟩=>⟨e.seq<|SqL.of h2,by rw[ez.1,Yb];refine Yv (YF ..) ?_;rw[ZI];exact XJ _⟩) ?_ ?_⟩
  .rintro j v zs H6 pt RY hj ⟨s6,MG,hZ⟩ uz Xk;obtain⟨p,hp,tt,rfl,ht⟩:=h3.at hj;have VJ:=(Xr.mp hp).1
   have s7:=XZ (o:=.tup [.int j,.ref tt]) RY;refine⟨pt,_,Z,SqT.of XS,Z,_,_,Z,_,_,Z,Z,?_⟩;have AG:=hZ.same s7
   have SU:=s6.trans s7;generalize upd H6 pt (.tup [.int j,.ref tt])=H7 at *;refine⟨_,Z,_,Z,gA,_,Z,.inr<|ZG SU hg5,Z,ZT _,_,Z,?_⟩;rw[Pb];refine WK (λHK=>?_) (λHK=>?_)
   .refine Xk _ _ ⟨SU,VJ,?_⟩;rwa[aa,if_pos HK,YI]
   .refine⟨_,Z,Xk _ _ ⟨SU,VJ,?_⟩⟩;rw[aa,if_neg HK,YG];refine AG.app ?_;show PairsV H7 [V.ref tt] [ps.getD ((j:Nat):Int).toNat (0,0)]
    rw[YA,ZW hp];exact PairsV.nil.snoc ⟨tt,Z,SU _ _ ht⟩
  rintro zs H6 ⟨s6,_,hZ⟩ rA Ov;rw[RH]at hZ;have s7:=XZ (o:=.lst zs) Ov
  have HV:(upd H6 rA<|.lst zs) rA=some (.lst zs):=XS;have AG:=hZ.same s7
  have SU:=s6.trans s7;generalize upd H6 rA (.lst zs)=H7 at *;have hf7:=SU _ _ (s5 _ _ wj)
  have hn7:=SU _ _ (s5 _ _ jK);have xt:=AG.1
  have NG:(XB ps.length<|Is++Os).length<=30:=by refine Yv (YF ..) ?_;rw[ZI];lia
  rw[Yb]at xt;refine nm ?_;refine⟨_,Z,fA,_,Z,.inl<|SqL.of hf7,_,Z,rA,Z,⟨_,SqL.of HV⟩,QR (K:=K) (a:=rA) (xs:=zs) (λi ws H8=>Same H7 H8/\i<=(XB ps.length<|Is++Os).length/\PairsV H8 ws (((XB ps.length<|Is++Os).take i).map λz=>((UP F (mk (Xs n.toNat<|XR ps Is) (Zx ps z).1):Int),(UP F (mk (Xs n.toNat<|XR ps Is) (Zx ps z).2):Int)))) ⟨Same.refl _,Yj _,PairsV.nil⟩ (Zl J)
   (λi ws H8 hi zz=>by obtain⟨e,Wh,ew⟩:=zz;exact⟨e.seq<|SqL.of HV,by rw[ew.1,Yb,Yn];lia⟩) ?_ ?_⟩
  .rintro i v ws H8 hi ⟨s8,VB,we⟩ uz Xk;obtain⟨p,hp,tt,rfl,ht⟩:=AG.at hi;rw[Yl]at hp;obtain⟨z,hz,ez⟩:∃z,(XB ps.length<|Is++Os)[i]?=some z/\ps.getD z.toNat (0,0)=p:=by
    cases hq:(XB ps.length<|Is++Os)[i]? with
    |none=>rw[hq]at hp;cases hp
    |some z=>rw[hq]at hp;exact⟨z,Z,Ye hp⟩
   have xr:=(WR.mp<|Xi hz).1;obtain⟨p',HN⟩:∃p,ps[z.toNat]?=some p:=⟨_,Xw J⟩;have epp:p'=p:=by rw[<-ez,ZW HN]
   rw[epp]at HN;obtain⟨e1,e2,e3,e4⟩:=g4 p (Xi HN);have ee:Zx ps z=(p.1.toNat,p.2.toNat):=by unfold Zx;rw[ZW HN]
   have FC:=s8 _ _ ht;have hn8:=s8 _ _ hn7
   refine nm ?_;refine⟨_,Z,_,Z,tt,_,0,.int p.1,Z,Z,SqT.of FC,Z,nA,_,_,_,Z,Z,SqL.of hn8,Zv (n:=p.1.toNat) J<|UX<|nAt p.1 e1 e2,?_⟩;refine⟨_,Z,_,Z,tt,_,1,.int p.2,Z,Z,SqT.of FC,Z,nA,_,_,_,Z,Z,SqL.of hn8,Zv (n:=p.2.toNat) J<|UX<|nAt p.2 e3 e4,(by show 2<=sizeLine;decide),λpp PU=>?_⟩;refine Xk _ _ ⟨s8.trans<|XZ PU,by have:=(Xr.mp hz).1;lia,?_⟩;rw[YJ,hz,YG];refine(we.same<|XZ PU).snoc ⟨pp,Z,?_⟩;dsimp only;rw[ee];exact XS
  rintro ws H8 ⟨s8,_,we⟩ la jZ;rw[xt,YD]at we;have s9:=XZ (o:=.lst ws) jZ
  have Mc:(upd H8 la<|.lst ws) la=some (.lst ws):=XS;have hP9:=we.same s9
  have wd:=s8.trans s9;generalize upd H8 la (.lst ws)=H9 at *;have hGc:=cE (f:=λi=>UP F<|mk (Xs n.toNat<|XR ps Is) i) hG (Is++Os) jH k1 kn
  intro x jF nx Nl Mb;have t1:Same H9 (upd (upd H9 jF<|.own x) x<|.ins t.A_Web jF []):=Zq (XZ Nl) (by rwa[Zb (XI Mb)])
  refine⟨x,jF,(F.length:Int),la,false,ws,_,by rw[XD];rfl,XS,λo=>?_,hP9.same t1,hGc,λNk hV k10=>⟨Z,?_⟩⟩
  .exact SqL.of (by rwa[Zb (Za Mc nx),Zb<|Za Mc nx,Zb (Za Mc Nl)])
  have AF:Same H9 Nk:=λb o e=>k10 b o (t1 b o e) (Za e nx);refine⟨x,_,_,Z,hV,hGc,λc Ma hc HJ=>q c Ma (back c<|mK hG hJ (λz hz=>VZ z<|Nm.mem_iff.mp hz) (λi j hi hj=>(hfg i j hi hj).trans (Ih i j).symm) jH hgg (by rw[Nm.length_eq];grind)<|by rwa[hfr])<|AH.trans<|SU.trans<|wd.trans<|AF.trans HJ⟩
inductive spZn(K:Ad)(C:Addr)(vs:List V)(H:Hp)(Q:VK)(_:XK):Prop
 |mk (w a b:Addr) (n:Int) (ps:Aa) (ka kb:Bool) (Is Os:Ac) (_:vs=[.ref w,.ref a,.ref b]) (_:WebAt C H w n ps) (_:Zz n ps) (_:SqK ka K H a (IL Is)) (_:SqK kb K H b (IL Os)) (_:IsSet ps.length Is) (_:IsSet ps.length Os) (_:∀(c:Nat)(H':Hp),PC n ps Is Os c->Same H H'->Q (.int c) H')
theorem AE:FnScope ["web","inside","outside"] ["web","inside","outside"] (Xt (top 37)):=WC B
theorem HI(T:Txt K mg t):Xf P w base Xo T.qZn 5 (spZn K t.A_Web):=by
 refine T.qZn.okI ["web","inside","outside"] B λXC A outer s H vs Q E hr h=>?_
 .obtain⟨w,a,b,n,ps,ka,kb,Is,Os,rfl,hW,hG,hA,hB,hI,hO,q⟩:=h;refine⟨_,(XQ (Zg (i:=1) AE.nd Z (Or.inl Z)<|XA (HP T) hr T.qZe Zs<|XY (pv 0)<|XY (pv 1) XW)
   (XQ (Zg (i:=2) AE.nd Z (Or.inl Z)<|XA (HP T) hr T.qZe Zs<|XY (pv 0)<|XY (pv 2) XW)
   (XQ (Xx (PD<|XA (jY T) hr T.qZc Zs<|XY (pv 1)<|XY (pv 2) XW)
   (XN<|Zi XO)
   Zm)
   (XN<|Zi<|XA (Md T) hr T.qZm Zs<|XY (pv 0)<|XY (pv 1)<|XY (pv 2) XW)))),?_⟩
  have g3:=hG.2.2.1;have l1:=hI.len
  have l2:=hO.len;refine⟨_,Z,_,Z,w,a,n,ps,ka,Is,Z,hW,hA,hI,λr1 H1 s1 Wj=>?_⟩;refine nm ?_;refine⟨_,Z,_,Z,w,b,n,ps,kb,Os,Z,hW.same s1,hB.same s1,hO,λr2 H2 s2 Wa=>?_⟩;refine nm ?_;have AD:=ZG s2 Wj
  have RX:=s1.trans s2;refine⟨_,Z,_,Z,r1,r2,Is,Os,Z,AD,Wa,uD,λc H3 hc s3=>⟨_,Z,?_⟩⟩;have PR:=RX.trans s3
  refine qY (λhb=>?_) (λhb=>?_)
  .obtain⟨z,h1,h2⟩:=hc.mp hb;exact q 0 H3 (Zw8 h1 h2) PR
  .exact⟨_,Z,_,Z,_,Z,w,r1,r2,n,ps,Is,Os,Z,hW.same PR,hG,ZG s3 AD,ZG s3 Wa,hI.nodup,hI.all,uD,λz h1 h2=>absurd (hc.mpr ⟨z,h1,h2⟩) (by rw[hb];decide),λc H4 FA s4=>q c H4 FA<|PR.trans s4⟩
inductive spZo(K:Ad)(C:Addr)(vs:List V)(H:Hp)(Q:VK)(_:XK):Prop
 |mk (w a n ps kd ns:_) (_:vs=[.ref w,.ref a]) (_:WebAt C H w n ps) (_:Zz n ps) (_:SqK kd K H a (IL ns)) (_:∀b H',Same H H'->(b=true↔Zf n ps ns)->Q (.bl b) H')
theorem jE(T:Txt K mg t):Xf P w base Xo T.qZo 6 (spZo K t.A_Web):=by
 refine T.qZo.okI ["web","ties"] B λXC A outer s H vs Q E hr h=>?_
 .obtain⟨w,a,n,ps,kd,ns,rfl,hW,hG,hS,q⟩:=h;refine⟨_,(XN<|Zi<|Eu (XA (AN T) hr T.qZd Zs<|XY (pv 0)<|XY (pv 1) XW)<|Eu (Sn SH (Zd (Zk K) uG T.n_len Boot.«len»<|XY (pv 1) XW) (Zr SI (Zp K (pv 0) Z) XO)<|Zo _)<|Jz<|XA (jS T) hr T.qZi Zs<|XY (pv 0)<|XY (pv 1) XW),?_⟩;refine⟨_,Z,_,Z,w,a,n,ps,kd,ns,Z,hW,hS,λb hb=>⟨b,Z,?_⟩⟩;refine qY (λe=>?_) (λe=>?_)
  .have hI:=hb.mp e;obtain⟨dx,tl,xs,h1,h2,h3⟩:=id hW;refine⟨_,Z,a,_,Z,hS.or,_,Z,w,_,dx,_,_,Z,h1,T.cl_Web,T.n_Web_places,IW _ _,_,_,Z,Z,Z,_,Z,?_⟩;rw[XD,Zy];refine Xh (λhl=>?_) (λhl=>?_)
   .refine⟨_,Z,_,Z,w,a,n,ps,kd,ns,Z,hW,hG,hS,hI,λb2 H' s Ta=>q b2 H' s ?_⟩;rw[Ta,qr (by have:=hG.1;grind) (ZO hG hI.all)];exact⟨λz=>⟨hI,hl,z⟩,λz=>z.2.2⟩
   .exact q false H (Same.refl H) ⟨λz=>(nomatch z),λz=>absurd z.2.1 hl⟩
  .exact q false H (Same.refl H) ⟨λz=>(nomatch z),λz=>by rw[hb.mpr z.1]at e;cases e⟩
inductive spZp(K:Ad)(C:Addr)(vs:List V)(H:Hp)(Q:VK)(_:XK):Prop
 |mk (w a n ps kd ns:_) (_:vs=[.ref w,.ref a]) (_:WebAt C H w n ps) (_:Zz n ps) (_:SqK kd K H a (IL ns)) (_:(Zf n ps ns->∀H':Hp,Same H H'->Q .non H')) (_:(¬Zf n ps ns->∀H':Hp,Same H H'->False))
theorem LZ(T:Txt K mg t):Xf P w base Xo T.qZp 7 (spZp K t.A_Web):=by
 refine T.qZp.okI ["web","tree"] B λXC A outer s H vs Q E hr h=>?_
 .obtain⟨w,a,n,ps,kd,ns,rfl,hW,hG,hS,q,qe⟩:=h;refine⟨_,(XN (Xx (UD<|PD<|XA (jE T) hr T.qZo Zs<|XY (pv 0)<|XY (pv 1) XW)
   (XN ZX)
   Zm)),?_⟩
  refine⟨_,Z,_,Z,w,a,n,ps,kd,ns,Z,hW,hG,hS,λb H' s hb=>⟨_,Z,?_⟩⟩;refine Dw (λz=>?_) (λz=>?_)
  .exact q (hb.mp z) H' s
  .exact qe (λg=>by rw[hb.mpr g]at z;cases z) H' s
inductive spZq(K:Ad)(C:Addr)(vs:List V)(H:Hp)(Q:VK)(_:XK):Prop
 |mk (w a b n ps ka kb ns os:_) (_:vs=[.ref w,.ref a,.ref b]) (_:WebAt C H w n ps) (_:Zz n ps) (_:SqK ka K H a (IL ns)) (_:SqK kb K H b (IL os)) (_:ns.length<=1000) (_:os.length<=1000) (_:(∀z∈ns++os,0<=z/\z<(ps.length:Int))) (_:(((WM n.toNat ps<|ns++os).take ns.length≠ns\/((WM n.toNat ps<|ns++os).length:Int)<n-1)->∀H':Hp,Same H H'->Q .non H')) (_:((WM n.toNat ps<|ns++os).take ns.length=ns->¬((WM n.toNat ps<|ns++os).length:Int)<n-1->∀r ms H',ms.Perm (WM n.toNat ps<|ns++os)->ms.Pairwise (·<=·)->Same H H'->H r=none->H' r=some (.tup<|IL ms)->Q (.ref r) H'))
theorem Oj:FnScope ["web","inside","order","marks","grown","tie","ends"] ["web","inside","order"] (Xt (top 41)):=WC B
theorem jD(T:Txt K mg t):Xf P w base Xo T.qZq 3 (spZq K t.A_Web):=by
 refine T.qZq.okI ["web","inside","order","marks","grown","tie","ends"] B λXC A outer s H vs Q E hr h=>?_
 .obtain⟨w,a,b,n,ps,ka,kb,ns,os,rfl,hW,hG,hS,Dh,AB,Qk,hI,q0,q1⟩:=h;refine⟨_,(XQ (Zg (i:=3) Oj.nd Z (Or.inl Z)<|XA (Qx T) hr T.qZg Zs<|XY (pv 0)<|XY (WN XW) XW)
   (XQ (Zg (i:=4) Oj.nd Z (Or.inl Z)<|ZZ XW)
   (XQ (Va YQ Z (ZQ K<|Zr QW (Zj (Gj K) uG T.n_list Boot.«list»<|XY (pv 1) XW)<|Zj (Gj K) uG T.n_list Boot.«list»<|XY (pv 2) XW) (Ze (i:=5) Oj.nd Z<|Or.inl Z)
   (XQ (Zg (i:=6) Oj.nd Z (Or.inl Z)<|ZC (Zc K) (Zp K (pv 0) Z) (pv 5) λ_ _=>rfl)
   (XN (Xx (Zh Ub (ZC (Zc K) (pv 3) (ZC (ZK K) (pv 6) XO λ_ _=>rfl) λ_ _=>rfl) (ZC (Zc K) (pv 3) (ZC (ZK K) (pv 6) XO λ_ _=>rfl) λ_ _=>rfl)<|Zo _)
   (XQ (Zg (i:=3) Oj.nd Z (Or.inl Z)<|XA (AM T) hr T.qZf Zs<|XY (pv 0)<|XY (pv 3)<|XY (WN<|XY (pv 5) XW) XW)
   (XN<|ZS<|UJ K YL NS NT ZU (pv 4)<|XY (pv 5) XW))
   Zm))))
   (XQ (Xx (PW.pt<|Sq (Zh (qT K<|Gm hr) (ZY (Pd K) (pv 4) Pq<|QX<|Zd (Zk K) uG T.n_len Boot.«len»<|XY (pv 1) XW) (Zj (Gj K) uG T.n_list Boot.«list»<|XY (pv 1) XW)<|Zo _)<|JA<|Zh UC (Zd (Zk K) uG T.n_len Boot.«len»<|XY (pv 4) XW) (Zr SI (Zp K (pv 0) Z) XO)<|Zo _)
   (XN<|Zi Qp)
   Zm)
   (XN<|Zi<|Zj (ZF K) uG T.n_tuple Boot.«tuple»<|XY (Zd (xN K) uG T.n_sorted Boot.«sorted»<|XY (pv 4) XW) XW))))),?_⟩
  obtain⟨g1,g2,g3,g4⟩:=id hG;have one:1<=sizeLine:=uB
  refine⟨_,Z,Yj _,λr0 Vu=>?_⟩;have s0:=XZ (o:=.tup []) Vu
  refine⟨w,r0,n,ps,[],Z,hW.same s0,hG,SqT.of XS,λ_ e=>(nomatch e),λm H1 s1 Ts Td=>?_⟩;have s01:=s0.trans s1
  have hmf:=s0.free Ts;refine⟨Yj _,λgl jC=>?_⟩;have s2:=XZ (o:=.lst []) jC
  have RX:=s01.trans s2;have hgf:=s01.free jC
  refine⟨_,Z,a,_,Z,(hS.same RX).or,λl1 Ui=>?_⟩;have s3:=XZ (o:=.lst<|IL ns) Ui
  have PR:=RX.trans s3;refine⟨_,Z,b,_,Z,(Dh.same PR).or,λl2 SD=>?_⟩;have s4:=XZ (o:=.lst<|IL os) SD
  have AI:=PR.trans s4;refine⟨l1,l2,_,_,Z,Z,s4 _ _ XS,XS,TY (by rw[XD,XD];lia),λcl Tu=>?_⟩;have s5:=XZ (o:=.lst<|IL ns++IL os) Tu
  have AH:=AI.trans s5;have eI:IL ns++IL os=IL (ns++os):=(Dx _ _).symm
  have AA:=s5 _ _ (s4 _ _<|s3 _ _<|XS (H:=H1) (a:=gl) (o:=.lst []));have wc:=s5 _ _ (s4 _ _<|s3 _ _<|s2 _ _ Td)
  have HH:=XS (H:=upd (upd (upd H1 gl<|.lst []) l1<|.lst<|IL ns) l2<|.lst<|IL os) (a:=cl) (o:=.lst<|IL ns++IL os);have ncg:cl≠gl:=λe=>by rw[e]at Tu;exact absurd ((s4 _ _<|s3 _ _<|XS (H:=H1) (a:=gl) (o:=.lst [])).symm.trans Tu) S
  have nmg:m≠gl:=λe=>by rw[e]at Td;exact absurd (Td.symm.trans jC) S
  rw[eI]at s5 AH AA wc HH ⊢;generalize upd (upd (upd (upd H1 gl<|.lst []) l1<|.lst<|IL ns) l2<|.lst<|IL os) cl (.lst<|IL<|ns++os)=H5 at *;refine⟨cl,Z,⟨_,SqL.of HH⟩,ym (K:=K) (a:=cl) (xs:=IL<|ns++os) (λi σ H2=>∃mc v5 v6,σ=[some (.ref w),some<|.ref a,some<|.ref b,some<|.ref mc,some<|.ref gl,v5,v6]/\Same H H2/\mc≠gl/\
    H2 cl=some (.lst<|IL<|ns++os)/\H2 mc=some (.lst<|IL<|Xs n.toNat<|XR ps<|WM n.toNat ps<|(ns++os).take i)/\H2 gl=some (.lst<|IL<|WM n.toNat ps<|(ns++os).take i))
   ⟨m,none,none,Z,AH,nmg,HH,wc,AA⟩ (λi σ H2 _ zz=>by obtain⟨_,_,_,_,_,_,e,_⟩:=zz;exact SqL.of e) ?_ ?_⟩
  .rintro i x σ H2 hi ⟨mc,v5,v6,rfl,s2,XH,Wc,Wz,Mn⟩;obtain⟨z,rfl,hz⟩:=WQ hi;obtain⟨z0,z1⟩:=hI z (Xi hz);have hIt:∀y∈(ns++os).take i,0<=y/\y<(ps.length:Int):=λy hy=>hI y (Ff hy)
   have est:(ns++os).take (i+1)=(ns++os).take i++[z]:=by rw[YJ,hz];rfl
   have eG:WM n.toNat ps ((ns++os).take (i+1))=QL n.toNat ps (WM n.toNat ps<|(ns++os).take i) z:=by rw[est,KP]
   have WE:=QK hG hIt;have Az:=dS hG hIt
   generalize WM n.toNat ps ((ns++os).take i)=G at *;obtain⟨dx,tl,xs,h1,h2,h3⟩:=hW.same s2;obtain⟨p,hp⟩:∃p,ps[z.toNat]?=some p:=⟨_,Xw J⟩;obtain⟨v,hv,tt,rfl,Us⟩:=h3.2 z.toNat p hp;obtain⟨e1,e2,e3,e4⟩:=g4 p (Xi hp);have ed:Zx ps z=(p.1.toNat,p.2.toNat):=by unfold Zx;rw[ZW hp]
   have hl:(Xs n.toNat<|XR ps G).length=n.toNat:=ZD _ _;have iA:Wr (IL<|Xs n.toNat<|XR ps G) p.1=some (.int<|mk (Xs n.toNat<|XR ps G) p.1.toNat):=Zv (n:=p.1.toNat) J (UX<|Si uE)
   have iB:Wr (IL<|Xs n.toNat<|XR ps G) p.2=some (.int<|mk (Xs n.toNat<|XR ps G) p.2.toNat):=Zv (n:=p.2.toNat) J (UX<|Si uE);have t0:Wr ([.int p.1,.int p.2]:List V) 0=some (.int p.1):=rfl
   have t1:Wr ([.int p.1,.int p.2]:List V) 1=some (.int p.2):=rfl;have key:mk (Xs n.toNat<|XR ps G) p.1.toNat=mk (Xs n.toNat<|XR ps G) p.2.toNat↔mk (Xb n.toNat<|XR ps G) (Zx ps z).1=mk (Xb n.toNat<|XR ps G) (Zx ps z).2:=by rw[ed,QN WE uE uE,ZV WE uE uE]
   refine⟨_,Z,w,_,dx,_,_,Z,h1,T.cl_Web,T.n_Web_ties,Pe _ _,_,Z,tl,xs,z,.ref tt,Z,Z,SqL.of h2,Zv (n:=z.toNat) J hv,?_⟩;refine⟨_,Z,_,Z,tt,_,0,_,Z,Z,SqT.of Us,t0,mc,_,p.1,_,Z,Z,SqL.of Wz,iA,_,Z,_,Z,tt,_,1,_,Z,Z,SqT.of Us,t1,mc,_,p.2,_,Z,Z,SqL.of Wz,iB,Z,_,Z,?_⟩;rw[Zy];refine WK (λhe=>?_) (λhe=>?_)
   .refine⟨mc,_,_,Z,s2,XH,Wc,?_,?_⟩
    .rw[eG];unfold QL;rwa[if_pos (key.mp he)]
    .rw[eG];unfold QL;rwa[if_pos (key.mp he)]
   .have eG2:WM n.toNat ps ((ns++os).take (i+1))=G++[z]:=by rw[eG];unfold QL;rw[if_neg λe=>he (key.mpr e)]
    refine⟨_,Z,_,Z,_,Z,one,λp2 VO=>?_⟩;have s6:=XZ (o:=.tup [.int z]) VO
    refine⟨w,mc,p2,n,ps,_,true,[z],Z,(hW.same s2).same s6,hG,s6 _ _ Wz,hl,SqT.of XS,λy hy=>by rw[XG.mp hy];exact⟨z0,z1⟩,λm' H7 s7 hf Fz=>?_⟩;have LY:=s6.trans s7
    have hg7:=LY _ _ Mn;have hc7:=LY _ _ Wc
    have nm':m'≠gl:=by
     rcases hf with rfl|hf
     .exact XH
     .exact λe=>absurd ((s6 _ _ Mn).symm.trans (e▸hf)) S
    refine⟨_,Z,.inl ⟨Z,_,SqL.of hg7⟩,_,Z,gl,_,_,Z,Z,hg7,Zl (by rw[XD];lia),?_⟩;refine⟨m',_,_,Z,Zu hgf<|s2.trans LY,nm',?_,?_,?_⟩
    .rw[Zb ncg];exact hc7
    .rw[Zb nm',Fz,eG2,IG,qP];rfl
    .rw[XS,eG2,ZE]
  .rintro σ H2 ⟨mc,v5,v6,rfl,s2,XH,Wc,Wz,Mn⟩;rw[XD,YD]at Mn;have Az:=dS hG hI
   generalize WM n.toNat ps (ns++os)=G at *;refine⟨_,Z,_,Z,a,_,Z,(hS.same s2).or,_,Z,gl,_,Z,SqL.of Mn,λr1 Wj=>?_⟩;have ec:Xe (IL G) none (some ((IL ns).length:Int))=IL (G.take ns.length):=by rw[dU J,YA,XD,eX]
   rw[ec];have s3:=XZ (o:=.lst<|IL<|G.take ns.length) Wj
   refine⟨_,Z,a,_,Z,(hS.same<|s2.trans s3).or,λr2 Wa=>?_⟩;have s4:=XZ (o:=.lst<|IL ns) Wa
   refine⟨1,_,r1,r2,Z,Z,uB,eE (SqL.of<|s4 _ _ XS)<|SqL.of XS,_,Z,?_⟩;have Kg:=s2.trans (s3.trans s4)
   refine WK (λhe=>?_) (λhe=>?_)
   .obtain⟨dx,tl,xs,h1,h2,h3⟩:=hW.same Kg;have hg4:=s4 _ _ (s3 _ _ Mn)
    refine⟨_,Z,gl,_,Z,.inl<|SqL.of hg4,_,Z,w,_,dx,_,_,Z,h1,T.cl_Web,T.n_Web_places,IW _ _,_,_,Z,Z,_,_,Z,Z,_,Z,?_⟩;rw[XD];refine Xh (λhc=>?_) (λhc=>?_)
    .exact q0 (.inr hc) _ Kg
    .refine⟨_,Z,gl,G,Z,SqL.of hg4,J,λms UO VO l hl=>?_⟩;have s5:=XZ (o:=.lst<|IL ms) hl
     refine⟨l,_,Z,.inl ⟨SqL.of XS,λr hr=>?_⟩⟩;exact q1 he hc r ms _ UO VO ((Kg.trans s5).trans (XZ hr)) ((Kg.trans s5).free hr) XS
   .refine Wb ?_;exact q0 (.inl he) _ Kg
inductive spZr(K:Ad)(C:Addr)(vs:List V)(H:Hp)(Q:VK)(_:XK):Prop
 |mk (w a n ps kd ns z:_) (_:vs=[.ref w,.ref a,.int z]) (_:WebAt C H w n ps) (_:Zz n ps) (_:SqK kd K H a (IL ns)) (_:IsSet ps.length ns) (_:∀r H',Same H H'->H r=none->H' r=some (.tup<|IL<|unlike (Xb n.toNat<|XR ps<|wo ns z) ps ps.length)->Q (.ref r) H')
theorem jB:FnScope ["web","tree","tie","marks"] ["web","tree","tie"] (Xt (top 42)):=WC B
theorem jz(T:Txt K mg t):Xf P w base Xo T.qZr 3 (spZr K t.A_Web):=by
 refine T.qZr.okI ["web","tree","tie","marks"] B λXC A outer s H vs Q E hr h=>?_
 .obtain⟨w,a,n,ps,kd,ns,z,rfl,hW,hG,hS,hI,q⟩:=h;refine⟨_,(XQ (Zg (i:=3) jB.nd Z (Or.inr Z)<|XA (Qx T) hr T.qZg Zs<|XY (pv 0)<|XY (XA (AO T) hr T.qZb Zs<|XY (pv 1)<|XY (pv 2) XW) XW)
   (XN<|Zi<|Zj (ZF K) uG T.n_tuple Boot.«tuple»<|XY (WG Z (sc0:=Xt<|top 42) (N0:=["web","tree","tie","marks"]) (N':=["number","ends","marks"]) (o:=2) (fr:=[3]) ⟨Z,B,B,B,Z,B⟩ (Gh K Z T.n_enumerate<|XY (Zp K (pv 0) Z) XW) (Pl<|NH uB<|NH uB Pm) (λ_ _ _ _=>(Qj (n:=2) K Z<|Zw (Ze (i:=0) (show List.Nodup (["number","ends","marks"]:List Str) by decide +kernel) Z<|Or.inl Z)<|Zw (Ze (i:=1) (show List.Nodup (["number","ends","marks"]:List Str) by decide +kernel) Z<|Or.inl Z) Qo)) (λ_ _ _ _=>(Qm<|Zh Ub (ZC (Zc K) (pv 2) (ZC (ZK K) (pv 1) XO λ_ _=>rfl) λ_ _=>rfl) (ZC (Zc K) (pv 2) (ZC (ZK K) (pv 1) XO λ_ _=>rfl) λ_ _=>rfl)<|Zo _)) λ_ _ _ _=>(pv 0)) XW)),?_⟩
  obtain⟨g1,g2,g3,g4⟩:=id hG;have hln:=hI.len
  have hb:∀y∈wo ns z,0<=y/\y<(ps.length:Int):=λy hy=>hI.all y (Xg.mp hy).1;refine⟨_,Z,_,Z,_,Z,a,kd,ns,z,Z,hS,J,λr1 H1 s1 Vu Wj=>?_⟩;refine⟨w,r1,n,ps,wo ns z,Z,hW.same s1,hG,SqT.of Wj,hb,λm H2 s2 Ts Wz=>?_⟩;have WE:=ZO hG hb
  have e0:=ZU5 (M:=Xs n.toNat<|XR ps<|wo ns z) hG (ZD _ _) (xT WE);have hl:(Xs n.toNat<|XR ps<|wo ns z).length=n.toNat:=ZD _ _
  rw[<-e0]at q;generalize Xs n.toNat (XR ps<|wo ns z)=M at *;have Wv:=s1.trans s2
  obtain⟨dx,tl,xs,h1,h2,h3⟩:=hW.same Wv;have RH:=h3.1
  refine⟨_,Z,w,_,dx,_,_,Z,h1,T.cl_Web,T.n_Web_ties,Pe _ _,tl,Z,⟨_,SqL.of h2⟩,xH (K:=K) (a:=tl) (xs:=xs) (λi ys H3=>Same H2 H3/\i<=xs.length/\ys=IL (unlike M ps i)) ⟨Same.refl _,Yj _,Z⟩ (Zl J)
   (λi ys H3 _ zz=>by obtain⟨e,_,ey⟩:=zz;exact⟨SqL.of<|e _ _ h2,by rw[ey,XD];exact Zp6 _ _ _⟩) ?_ ?_⟩
  .rintro i x ys H3 pt RY hi ⟨s3,VB,rfl⟩ uz Xk;obtain⟨p,Pa,tt,rfl,Us⟩:=h3.at hi;obtain⟨e1,e2,e3,e4⟩:=g4 p (Xi Pa);have Xj:i<xs.length:=(Xr.mp hi).1
   have s4:Same H3 (upd H3 pt<|.tup [.int i,.ref tt]):=XZ RY;have Rw:=s3.trans s4
   have Oi:=Rw _ _ Us;have Ay:=Rw _ _ Wz
   have ed:ps.getD i (0,0)=p:=ZW Pa;have t0:Wr ([.int p.1,.int p.2]:List V) 0=some (.int p.1):=rfl
   have t1:Wr ([.int p.1,.int p.2]:List V) 1=some (.int p.2):=rfl;have iA:Wr (IL M) p.1=some (.int<|mk M p.1.toNat):=Zv (n:=p.1.toNat) J (UX<|Si uE)
   have iB:Wr (IL M) p.2=some (.int<|mk M p.2.toNat):=Zv (n:=p.2.toNat) J (UX<|Si uE);refine⟨pt,_,Z,SqT.of XS,Z,_,_,Z,_,_,Z,Z,?_⟩;refine⟨_,Z,_,Z,tt,_,0,_,Z,Z,SqT.of Oi,t0,m,_,p.1,_,Z,Z,SqL.of Ay,iA,_,Z,_,Z,tt,_,1,_,Z,Z,SqT.of Oi,t1,m,_,p.2,_,Z,Z,SqL.of Ay,iB,Z,_,Z,?_⟩;rw[Zy];refine WK (λhe=>?_) (λhe=>?_)
   .refine Xk _ _ ⟨Rw,Xj,?_⟩;rw[Dc,ed,if_neg (by simpa using he),YI]
   .refine⟨_,Z,Xk _ _ ⟨Rw,Xj,?_⟩⟩;rw[Dc,ed,if_pos he,ZE]
  .rintro ys H3 ⟨s3,_,rfl⟩ p hp;rw[RH];refine⟨p,_,Z,.inl ⟨SqL.of XS,λr hr=>?_⟩⟩;exact q r _ (Wv.trans<|s3.trans<|Zq (XZ hp) hr) ((Wv.trans<|s3.trans<|XZ hp).free hr) XS
inductive spZs(K:Ad)(C:Addr)(vs:List V)(H:Hp)(Q:VK)(_:XK):Prop
 |mk (w a n ps kd ns z:_) (_:vs=[.ref w,.ref a,.int z]) (_:WebAt C H w n ps) (_:Zz n ps) (_:SqK kd K H a (IL ns)) (_:-(10^70)<z) (_:z<10^70) (_:(Zf n ps ns->z∉ns->0<=z->z<(ps.length:Int)->∀ms,ms.Perm (Ti n ps ns z ns++[z])->ms.Pairwise (·<=·)->∀r H',Same H H'->H r=none->H' r=some (.tup<|IL ms)->Q (.ref r) H')) (_:(Zf n ps ns->(z∈ns\/¬(0<=z/\z<(ps.length:Int)))->∀H':Hp,Same H H'->False)) (_:(¬Zf n ps ns->∀H':Hp,Same H H'->False))
theorem jy(T:Txt K mg t):Xf P w base Xo T.qZs 8 (spZs K t.A_Web):=by
 refine T.qZs.okI ["web","tree","tie"] B λXC A outer s H vs Q E hr h=>?_
 .obtain⟨w,a,n,ps,kd,ns,z,rfl,hW,hG,hS,z0,z1,q,q1,q2⟩:=h;refine⟨_,(XQ (ZS<|XA (LZ T) hr T.qZp Zs<|XY (pv 0)<|XY (pv 1) XW)
   (XQ (Xx (PW.pt<|Sq (Zh (Dq K) (pv 2) (pv 1) Z)<|JA<|UD<|PD<|XA (AV T) hr T.qZ6 Zs<|XY (pv 0)<|XY (pv 2) XW)
   (XN ZX)
   Zm)
   (XN<|Zi<|Zj (ZF K) uG T.n_tuple Boot.«tuple»<|XY (Zd (xN K) uG T.n_sorted Boot.«sorted»<|XY (Zr QW (WG Z (sc0:=Xt<|top 43) (N0:=["web","tree","tie"]) (N':=["out","tie","web","tree"]) (o:=1) (fr:=[2,0,1]) ⟨Z,B,B,B,Z,B⟩ (Ny K<|pv 1) (Zt uB) (λ_ _ _ _=>(Ze (i:=0) (show List.Nodup (["out","tie","web","tree"]:List Str) by decide +kernel) Z<|Or.inl Z)) (λ_ _ _ _=>(Qm<|Zh (Dq K) (pv 1) (XA (jz T) hr T.qZr Zs<|XY (pv 2)<|XY (pv 3)<|XY (pv 0) XW) Z)) λ_ _ _ _=>(pv 0))<|ZZ<|XY (pv 2) XW) XW) XW))),?_⟩
  refine⟨_,Z,_,Z,w,a,n,ps,kd,ns,Z,hW,hG,hS,λhT H1 s1=>?_,q2⟩;have one:1<=sizeLine:=uB
  have tl:ns.length<=20:=by have:=hT.2.1;have:=hG.2.1;lia
  refine⟨_,Z,_,Z,a,_,Z,(hS.same s1).or,Z,ZT _,_,Z,?_⟩;rw[Pb];refine Xh (λhc=>?_) (λhc=>?_)
  .exact Wb (q1 hT (.inl hc) H1 s1)
  .refine⟨_,Z,_,Z,w,n,ps,z,Z,hW.same s1,_,Z,?_⟩;refine WK (λht=>?_) (λht=>?_)
   .refine⟨_,Z,a,Z,Dr (k:=kd) (K:=K) (xs:=IL ns) (λi ys H2=>Same H1 H2/\i<=ns.length/\ys=IL (Ti n ps ns z<|ns.take i)) ⟨Same.refl _,Yj _,Z⟩ (Zl<|by rw[XD];lia)
     (λi ys H2 hi zz=>by obtain⟨e,Wh,ey⟩:=zz;exact⟨(hS.same s1).same e,by rw[ey,XD];exact Yv (Gb ..)<|by rw[Yn];lia⟩) ?_ ?_⟩
    .rintro i x ys H2 hi ⟨s2,VB,rfl⟩ uz Xk;obtain⟨y,rfl,hy⟩:=WQ hi;have Xj:i<ns.length:=(Xr.mp hy).1
     have Wv:=s1.trans s2;refine nm ?_;refine⟨_,Z,_,Z,_,Z,_,Z,w,a,n,ps,kd,ns,y,Z,hW.same Wv,hG,hS.same Wv,hT.1,λr H3 s3 Vu TM=>?_⟩;refine⟨r,_,Z,.inr<|SqT.of TM,Z,ZT _,_,Z,?_⟩;rw[Pb];refine Xh (λhe=>?_) (λhe=>?_)
     .refine⟨_,Z,Xk _ _ ⟨s2.trans s3,Xj,?_⟩⟩;rw[d7 hy,if_pos he,ZE]
     .refine Xk _ _ ⟨s2.trans s3,Xj,?_⟩;rw[d7 hy,if_neg he,YI]
    .rintro ys H2 ⟨s2,_,rfl⟩ p hp;rw[XD,YD];have rl:=Gb n ps ns z ns
     refine⟨_,Z,one,λp2 VO=>?_⟩;refine Dl (l2:=[z]) (by rw[Zb (Za XS VO)];exact XS) XS (by simp only[Yt,Nf];lia) λp3 Nq=>?_;refine⟨p3,_,Z,SqL.of XS,by simp only[Xu,Yt,Nf];lia,λms Vh OW p4 Np=>?_⟩;refine⟨p4,IL ms,Z,.inl ⟨SqL.of XS,λr hr=>?_⟩⟩;have s6:=(s1.trans s2).trans (Zq (Zq (XZ (o:=.lst<|IL<|Ti n ps ns z ns) hp) (o:=.lst<|IL [z]) VO) (o:=.lst<|IL<|Ti n ps ns z ns++[z]) Nq)
     exact q hT hc ht.1 ht.2 ms Vh OW r _ (s6.trans<|Zq (XZ Np) hr) ((s6.trans<|XZ Np).free hr) XS
   .exact q1 hT (.inr ht) H1 s1
inductive spZt(K:Ad)(C:Addr)(vs:List V)(H:Hp)(Q:VK)(_:XK):Prop
 |mk (w a b n ps I O:_) (_:vs=[.ref w,.ref a,.ref b]) (_:WebAt C H w n ps) (_:Zz n ps) (_:SqT K H a (IL I)) (_:SqT K H b (IL O)) (_:I.Nodup) (_:(∀z∈I,0<=z/\z<(ps.length:Int))) (_:(∀z∈I,z∉O)) (_:(∀H':Hp,Same H H'->(∀U,¬With n ps I O U)->Q .non H')) (_:(∀r F H',Same H H'->H' r=some (.tup<|IL F)->With n ps I O F->(∀U,With n ps I O U->HT.lexLt U F=false)->Q (.ref r) H'))
theorem HG(T:Txt K mg t):Xf P w base Xo T.qZt 4 (spZt K t.A_Web):=by
 refine T.qZt.okI ["web","inside","outside"] B λXC A outer s H vs Q E hr h=>?_
 .obtain⟨w,a,b,n,ps,I,O,rfl,hW,hG,hA,hB,hIn,Xm,hd,q0,q1⟩:=h;refine⟨_,(XN<|Zi<|XA (jD T) hr T.qZq Zs<|XY (pv 0)<|XY (pv 1)<|XY (XA (HR T) hr T.qZa Zs<|XY (pv 0)<|XY (pv 2) XW) XW),?_⟩;have g3:=hG.2.2.1
  refine⟨_,Z,_,Z,_,Z,_,Z,w,b,n,ps,true,O,Z,hW,J,hB,λD wb hD dA H1 s1 Ax=>?_⟩;have Aw:IsSet ps.length D:=XX.mpr ⟨λz hz=>((hD z).mp hz).1,wb⟩
  have hb:∀z∈I++D,0<=z/\z<(ps.length:Int):=λz hz=>(XE.mp hz).elim (Xm z) λh=>((hD z).mp h).1;have il:I.length<=ps.length:=by
   have:=IC (m:=Wi ps.length) hIn λz hz=>Xq.mpr (Xm z hz)
   rwa[ZI]at this
  have dl:=Aw.len;refine⟨w,a,dA,n,ps,true,true,I,D,Z,hW.same s1,hG,ZG s1 hA,SqT.of Ax,J,J,hb,λh H2 s2=>q0 H2 (s1.trans s2) λU hU=>?_,λht hl r ms H2 Vh OW s2 Vu hr=>?_⟩
  .have:=pG hG hU.1 hIn hU.2.1 (hU.sub hD) hb
   rcases h with h|h
   .exact h this.1
   .exact this.2 h
  .have hF:With n ps I O ms:=⟨pH hG hb hl Vh OW,λz hz=>Vh.mem_iff.mpr<|Ff<|ht▸hz,λz hz h=>(XE.mp<|(xy _ _ _).subset (Vh.mem_iff.mp h)).elim (λh=>hd z h hz) λh=>((hD z).mp h).2 hz⟩;exact q1 r ms H2 (s1.trans s2) hr hF λU hU=>Zr7 hG hU.1 hU.2.1 (hU.sub hD) hb wb hF.1 Vh hF.2.1
inductive spZu(K:Ad)(C:Addr)(vs:List V)(H:Hp)(Q:VK)(_:XK):Prop
 |mk (w:Addr) (n:Int) (ps:Aa) (z:Int) (_:vs=[.ref w,.int z]) (_:WebAt C H w n ps) (_:Zz n ps) (_:-(10^70)<z) (_:z<10^70) (_:(∀c:Nat,TC n ps c->0<=z->z<(c:Int)->∀(U:Ac)(r:Addr)(H':Hp),Zf n ps U->Rk n ps U z.toNat->Same H H'->H' r=some (.tup<|IL U)->Q (.ref r) H')) (_:((z<0\/∃c:Nat,TC n ps c/\(c:Int)<=z)->∀H':Hp,Same H H'->False))
theorem jx{K:Ad}{H:Hp}{a b:Addr}{l m:Ac}{Q:VK}(ha:H a=some (.tup (IL l)))(hb:H b=some (.tup (IL m)))(hl:l.length+m.length<=1000)(k:∀(r:Addr)(H':Hp),Same H H'->H' r=some (.tup (IL (l++m)))->Q (.ref r) H'):rCatU K (.ref a) (.ref b) H Q:=by
 refine⟨a,b,_,_,Z,Z,SqT.of ha,SqT.of hb,by rw[XD,XD];exact Yv hl uB,λe=>?_,λ_ e=>?_,λ_ _ p hp=>?_⟩
 .have el:l=[]:=JW.mp e;rw[el,Ng]at k;exact k b H (Same.refl _) hb
 .have em:m=[]:=JW.mp e;rw[em,YI]at k;exact k a H (Same.refl _) ha
 .refine k p _ (XZ hp) ?_;rw[XS,Dx]
theorem RW:FnScope ["web","number","inside","outside","tie","size"] ["web","number"] (Xt (top 46)):=WC B
theorem Av(T:Txt K mg t):Xf P w base Xo T.qZu 9 (spZu K t.A_Web):=by
 refine T.qZu.okI ["web","number","inside","outside","tie","size"] B λXC A outer s H vs Q E hr h=>?_
 .obtain⟨w,n,ps,z,rfl,hW,hG,z0,z1,q,qe⟩:=h;refine⟨_,(XQ (Xx (UD<|yj Ll UC XO (pv 1)<|XA (Om T) hr T.qZl Zs<|XY (pv 0) XW)
   (XN ZX)
   Zm)
   (XQ (Zg (i:=2) RW.nd Z (Or.inl Z)<|WN XW)
   (XQ (Zg (i:=3) RW.nd Z (Or.inl Z)<|WN XW)
   (XQ (Va YQ Z (Gi K<|XA (j0 T) hr T.qZ9 Zs<|XY (pv 0) XW) (Ze (i:=4) RW.nd Z<|Or.inl Z)
   (XQ (Zg (i:=5) RW.nd Z (Or.inl Z)<|XA (Md T) hr T.qZm Zs<|XY (pv 0)<|XY (Zr (OX K) (pv 2)<|WN<|XY (pv 4) XW)<|XY (pv 3) XW)
   (XN (Xx (Zh UC (pv 1) (pv 5)<|Zo _)
   (XN<|Zg (i:=2) RW.nd Z (Or.inl Z)<|Zr (OX K) (pv 2)<|WN<|XY (pv 4) XW)
   (XQ (tY (i:=1) RW.nd Z (Or.inl Z) (pv 5) Ju)
   (XN<|Zg (i:=3) RW.nd Z (Or.inl Z)<|Zr (OX K) (pv 3)<|WN<|XY (pv 4) XW))))))
   (XN<|Zi<|pv 2))))),?_⟩
  obtain⟨g1,g2,g3,g4⟩:=id hG;have one:1<=sizeLine:=uB
  refine⟨_,Z,_,_,Z,Z,_,Z,?_⟩;refine Xh (λzp=>?_) λzn=>?_;rotate_left
  .refine⟨_,Z,?_⟩;refine Wb ?_;exact qe (.inl uD) H (Same.refl _)
  refine⟨_,Z,w,n,ps,Z,hW,hG,λc H1 hc s1=>⟨_,_,Z,Z,_,Z,?_⟩⟩;refine WK (λzc=>?_) λzc=>?_;rotate_left
  .exact qe (.inr ⟨c,hc,uD⟩) H1 s1
  refine⟨Yj _,λiA Au=>⟨Yj _,λoA Fy=>?_⟩⟩;have u1:=XZ (o:=.tup<|IL []) Au
  have u2:=XZ (o:=.tup<|IL []) Fy;have s2:=s1.trans (u1.trans u2)
  have Wh:=u2 _ _ (XS (H:=H1) (a:=iA) (o:=.tup<|IL []));have UK:=XS (H:=upd H1 iA<|.tup<|IL []) (a:=oA) (o:=.tup<|IL [])
  refine nm ?_;dsimp only;refine⟨_,Z,w,n,ps,Z,hW.same s2,uD,λtA H3 s3 _ Rv=>?_⟩;have PR:=s2.trans s3
  obtain⟨z',wN⟩:∃r:Nat,z=(r:Int):=⟨z.toNat,uD⟩;refine⟨tA,Z,⟨_,SqT.of Rv⟩,tJ (K:=K) (a:=tA) (xs:=IL<|Wi ps.length) (λi σ H4=>∃(Is Os:Ac)(iA oA:Addr)(r d b:Nat)(v4 v5:Option V),σ=[some (.ref w),some<|.int r,some<|.ref iA,some<|.ref oA,v4,v5]/\Same H3 H4/\H4 iA=some (.tup<|IL Is)/\SqT K H4 oA (IL Os)/\IsSet i Is/\IsSet i Os/\(∀y,y∈Os↔(0<=y/\y<(i:Int))/\y∉Is)/\PC n ps Is Os d/\r<d/\BL n ps Is (i:Int) b/\b+r=z.toNat) ?_ ?_ ?_ ?_⟩
  .exact⟨[],[],iA,oA,z.toNat,c,0,none,none,by rw[Int.toNat_of_nonneg zp];rfl,Same.refl _,s3 _ _ Wh,SqT.of<|s3 _ _ UK,IsSet.nil _,IsSet.nil _,λy=>⟨λh=>(by cases h),λh=>(by omega)⟩,hc.pc,uD,my Z,uD⟩
  .intro i σ H4 _ h;obtain⟨_,_,_,_,_,_,_,_,_,_,s4,_⟩:=h;exact SqT.of (s4 _ _ Rv)
  .rintro i v σ H4 hi ⟨Is,Os,iA,oA,r,d,b,v4,v5,rfl,s4,As,wa,RV,HF,VZ,Hz,rW,Ar,jw⟩;obtain⟨y,rfl,hy⟩:=WQ hi;have hi3:i<ps.length:=by have:=(Xr.mp hi).1;rwa[XD,ZI]at this
   have ey:y=(i:Int):=by rw[pT hi3]at hy;exact(Ye hy).symm
   subst ey;have l1:=RV.len
   have l2:=HF.len;have AI:=PR.trans s4
   refine nm ?_;refine⟨_,Z,_,Z,_,Z,one,λtp Mf=>?_⟩;have v1:=XZ (o:=.tup<|IL [(i:Int)]) Mf
   refine wg (l:=Is) (m:=[(i:Int)]) (SqT.of<|v1 _ _ As) (SqT.of XS) (by show _+1<=_;omega) λjA H5 s5 hj5=>?_;have Hy:=v1.trans s5
   have hIi:IsSet ps.length (Is++[(i:Int)]):=by
    have:=RV.snoc
    exact XX.mpr ⟨λy hy=>by have:=this.all y hy;omega,(XX.mp this).2⟩
   refine⟨_,Z,w,jA,oA,n,ps,Is++[(i:Int)],Os,Z,hW.same<|AI.trans Hy,hG,hj5,ZG Hy wa,hIi.nodup,hIi.all,uD,λy h1 h2=>?_,λc1 H6 Fx s6=>?_⟩
   .obtain⟨o1,o2⟩:=(VZ y).mp h2;rcases XE.mp h1 with e|e
    .exact o2 e
    .have:=XG.mp e
     omega
   have Kf:=Hy.trans s6;refine nm ?_;dsimp only;refine⟨_,Z,_,Z,_,_,Z,Z,_,Z,?_⟩;obtain⟨c2,Wc⟩:=mz (Is:=Is) (Os:=(i:Int)::Os) hc;have hs:=Hz.uniq (cD (Fx.congr (λy=>by rw[XE,XG,Yg];exact Or.comm) λy=>Iff.rfl) Wc)
   have vZ:=s4.trans Kf;refine Xh (λXn=>?_) (λQe=>?_)
   .refine⟨_,Z,_,Z,one,λtq jv=>?_⟩;have x1:=XZ (o:=.tup<|IL [(i:Int)]) jv
    refine jx (l:=Is) (m:=[(i:Int)]) (x1 _ _<|Kf _ _ As) XS (by show _+1<=_;omega) λkA H7 s7 ju=>?_;have LY:=x1.trans s7
    refine⟨Is++[(i:Int)],Os,kA,oA,r,c1,b,_,_,Z,vZ.trans LY,ju,ZG (Kf.trans LY) wa,RV.snoc,HF.up,λy=>?_,Fx,uD,mx RV Ar,jw⟩;rw[VZ,XE,XG];constructor
    .rintro⟨a1,a2⟩;exact⟨uD,λq=>q.elim a2 λe=>uD⟩
    .rintro⟨a1,a2⟩;exact⟨by have:y≠(i:Int):=λe=>a2 (.inr e);omega,λq=>a2<|.inl q⟩
   .refine⟨_,Z,_,Z,r,c1,Z,Z,?_⟩;refine⟨_,Z,_,Z,one,λtq jv=>?_⟩;have x1:=XZ (o:=.tup<|IL [(i:Int)]) jv
    refine wg (l:=Os) (m:=[(i:Int)]) (ZG x1<|ZG Kf wa) (SqT.of XS) (by show _+1<=_;omega) λkA H7 s7 ju=>?_;have LY:=x1.trans s7
    have hIn:(i:Int)∉Is:=λq=>by have:=RV.all _ q;omega
    refine⟨Is,Os++[(i:Int)],iA,kA,r-c1,c2,b+c1,some<|.int (i:Int),some<|.int (c1:Int),?_,vZ.trans LY,(Kf.trans LY) _ _ As,ju,RV.up,HF.snoc,λy=>?_,Wc.congr (λy=>Iff.rfl) λy=>by rw[XE,XG,Yg];exact Or.comm,uD,mw hi3 RV VZ Ar Fx,uD⟩
    .have e:(r:Int)-(c1:Int)=((r-c1:Nat):Int):=uD;rw[<-e];rfl
    .rw[XE,XG,VZ];constructor
     .rintro(⟨a1,a2⟩|e)
      .exact⟨uD,a2⟩
      .rw[e];exact⟨uD,hIn⟩
     .rintro⟨a1,a2⟩;by_cases e:y=(i:Int)
      .exact .inr e
      .exact .inl ⟨uD,a2⟩
  .rintro σ H4 ⟨Is,Os,iA,oA,r,d,b,v4,v5,rfl,s4,As,wa,RV,HF,VZ,Hz,rW,Ar,jw⟩;rw[XD,ZI]at RV HF VZ Ar;obtain⟨e1,e2,e3⟩:=mv RV VZ Ar Hz rW;refine⟨_,Z,q c hc zp zc Is iA H4 e1 ?_ (PR.trans s4) As⟩;rwa[<-jw,e3]
inductive spZv(K:Ad)(vs:List V)(H:Hp)(Q:VK)(_:XK):Prop
 |mk (a:Addr) (b:Int) (kd:Bool) (l:Ac) (_:vs=[.ref a,.int b]) (_:SqK kd K H a (IL l)) (_:l.length<=1000) (_:∀(r:Addr)(H':Hp),Same H H'->H' r=some (.tup<|IL<|VH l b)->Q (.ref r) H')
theorem LX(T:Txt K mg t):Xf P w base Xo T.qZv 1 (spZv K):=by
 refine T.qZv.okI ["ties","bound"] B λXC A outer s H vs Q E hr h=>?_
 .obtain⟨a,b,kd,l,rfl,hA,hl,q⟩:=h;refine⟨_,(XN<|Zi<|Zj (ZF K) uG T.n_tuple Boot.«tuple»<|XY (WG Z (sc0:=Xt<|top 47) (N0:=["ties","bound"]) (N':=["tie","bound"]) (o:=1) (fr:=[1]) ⟨Z,B,B,B,Z,B⟩ (Ny K<|pv 0) (Zt uB) (λ_ _ _ _=>(Ze (i:=0) (show List.Nodup (["tie","bound"]:List Str) by decide +kernel) Z<|Or.inl Z)) (λ_ _ _ _=>(Qm<|Zh UC (pv 0) (pv 1)<|Zo _)) λ_ _ _ _=>(pv 0)) XW),?_⟩;refine⟨_,Z,a,Z,Dr (K:=K) (k:=kd) (a:=a) (xs:=IL l) (λi us H2=>H2=H/\i<=l.length/\us=IL (VH (l.take i) b)) ⟨Z,Yj _,Z⟩ (Zl<|by rw[XD];omega) (λi us H2 hi ⟨e,Wh,ey⟩=>⟨e▸hA,by
   rw[ey,XD];refine Yv (YF ..) ?_;rw[Yn]
   omega⟩) ?_ ?_⟩
  .rintro i v us H2 hi ⟨rfl,VB,rfl⟩ uz Xk;obtain⟨z,rfl,hz⟩:=WQ hi;have Xj:=(Xr.mp hz).1
   refine nm ?_;refine⟨_,Z,_,Z,_,_,Z,Z,_,Z,?_⟩;have e:VH (l.take<|i+1) b=VH (l.take i) b++(if z<b then [z] else []):=by
    unfold VH;rw[YJ,hz,Qs];refine Xy _ ?_;show List.filter _ [z]=_
    rw[YT];by_cases h:z<b
    .rw[if_pos h,if_pos (Yp h)];rfl
    .rw[if_neg h,if_neg (by simp;omega)];rfl
   refine Xh (λh=>?_) (λh=>?_)
   .refine⟨_,Z,Xk _ _ ⟨Z,Xj,?_⟩⟩;rw[e,if_pos h,ZE]
   .refine Xk _ _ ⟨Z,Xj,?_⟩;rw[e,if_neg h,YI]
  .rintro us H2 ⟨rfl,_,rfl⟩ p hp;rw[XD,YD];exact⟨p,_,Z,.inl ⟨SqL.of XS,λl hl=>q l _ (Zq (XZ hp) hl) XS⟩⟩
inductive spZw(K:Ad)(C:Addr)(vs:List V)(H:Hp)(Q:VK)(_:XK):Prop
 |mk (w a:Addr) (n:Int) (ps:Aa) (kd:Bool) (U:Ac) (_:vs=[.ref w,.ref a]) (_:WebAt C H w n ps) (_:Zz n ps) (_:SqK kd K H a (IL U)) (_:(Zf n ps U->∀(r:Nat)(H':Hp),Rk n ps U r->Same H H'->Q (.int r) H')) (_:(¬Zf n ps U->∀H':Hp,Same H H'->False))
theorem jt(cs:List Nat):(cs.map λ(c:Nat)=>(c:Int)).sum=((cs.sum:Nat):Int):=by
 induction cs with
 |nil=>rfl
 |cons x l ih=>rw[UI,JQ,JQ,ih];omega
theorem Zy6{K:Ad}{kd:Bool}{H H':Hp}{a:Addr}{xs:List V}(s:Same H H')(h:SqK kd K H a xs):SqK kd K H' a xs:=by
 cases kd with
 |false=>exact s.seq h
 |true=>exact ZG s h
theorem js:FnScope ["web","tree","beside"] ["web","tree"] (Xt (top 48)):=WC B
theorem Aq(T:Txt K mg t):Xf P w base Xo T.qZw 9 (spZw K t.A_Web):=by
 refine T.qZw.okI ["web","tree","beside"] B λXC A outer s H vs Q E hr h=>?_
 .obtain⟨w,a,n,ps,kd,U,rfl,hW,hG,hA,q,qe⟩:=h;refine⟨_,(XQ (ZS<|XA (LZ T) hr T.qZp Zs<|XY (pv 0)<|XY (pv 1) XW)
   (XQ (Zg (i:=2) js.nd Z (Or.inr Z)<|XA (HR T) hr T.qZa Zs<|XY (pv 0)<|XY (pv 1) XW)
   (XN<|Zi<|Zd (xX K Z) uG T.n_sum Boot.«sum»<|XY (WG Z (sc0:=Xt<|top 48) (N0:=["web","tree","beside"]) (N':=["tie","web","tree","beside"]) (o:=1) (fr:=[0,1,2]) ⟨Z,B,B,B,Z,B⟩ (Gi K<|pv 2) (Zt uB) (λ_ _ _ _=>(Ze (i:=0) (show List.Nodup (["tie","web","tree","beside"]:List Str) by decide +kernel) Z<|Or.inl Z)) (λ_ _ _ _=>ZR) λ_ _ _ _=>(XA (Md T) hr T.qZm Zs<|XY (pv 1)<|XY (Zr (OX K) (XA (LX T) hr T.qZv Zs<|XY (pv 2)<|XY (pv 0) XW)<|WN<|XY (pv 0) XW)<|XY (XA (LX T) hr T.qZv Zs<|XY (pv 3)<|XY (pv 0) XW) XW)) XW))),?_⟩
  obtain⟨g1,g2,g3,g4⟩:=id hG;have one:1<=sizeLine:=uB
  refine⟨_,Z,_,Z,w,a,n,ps,kd,U,Z,hW,hG,hA,λhT H1 s1=>?_,qe⟩;have hUl:=hT.1.len
  replace q:=q hT
  refine⟨_,Z,_,Z,w,a,n,ps,kd,U,Z,hW.same s1,uD,Zy6 s1 hA,λD hD Qw bA H2 s2 Ta=>?_⟩;have RX:=s1.trans s2
  have Aw:IsSet ps.length D:=XX.mpr ⟨λz hz=>((Qw z).mp hz).1,hD⟩;have AQ:=Aw.len
  refine nm ?_;dsimp only;refine⟨_,Z,bA,Z,⟨_,SqT.of Ta⟩,Ds (K:=K) (a:=bA) (xs:=IL D) (λj zs H3=>Same H2 H3/\∃cs:List Nat,zs=IL (cs.map λ(c:Nat)=>(c:Int))/\cs.length=j/\∀(i:Nat)(t:Int)(c:Nat),D[i]?=some t->cs[i]?=some c->∃I O,PC n ps I O c/\(∀z,z∈I↔(z∈U/\z<t)\/z=t)/\∀z,z∈O↔(0<=z/\z<(ps.length:Int))/\z∉U/\z<t)
   ⟨Same.refl _,[],Z,Z,λi t c _ h=>(by simp at h)⟩ (Zl<|by rw[XD];omega) (λj zs H3 _ zz=>by obtain⟨e,cs,ez,el,_⟩:=zz;exact⟨SqT.of<|e _ _ Ta,by rw[ez,XD,Yb,el];exact XJ _⟩) ?_ ?_⟩
  .rintro j v zs H3 hj ⟨s3,cs,rfl,el,Ke⟩ uz Xk;obtain⟨z,rfl,hz⟩:=WQ hj;have hzD:=Xi hz
   obtain⟨xr,IE⟩:=(Qw z).mp hzD;have PR:=RX.trans s3
   refine nm ?_;refine⟨_,Z,_,Z,_,Z,a,z,kd,U,Z,Zy6 PR hA,uD,λl1 H4 s4 ag=>?_⟩;refine⟨_,Z,one,λtp Mf=>?_⟩;have u1:=XZ (o:=.tup<|IL [z]) Mf
   have ll:(VH U z).length<=30:=Yv (YF ..) uD;refine wg (l:=VH U z) (m:=[z]) (SqT.of<|u1 _ _ ag) (SqT.of XS) (by show _+1<=_;omega) λiA H5 s5 hi5=>?_;have Hy:=s4.trans (u1.trans s5)
   have s35:=PR.trans Hy;refine⟨_,Z,_,Z,bA,z,true,D,Z,SqT.of<|Hy _ _<|s3 _ _ Ta,uD,λl2 H6 s6 PX=>?_⟩;have RV:IsSet ps.length (VH U z++[z]):=by
    refine XX.mpr ⟨λy hy=>?_,PN.mpr ⟨(XX.mp hT.1).2.filter _,NR _ _,λy hy x hx=>by rw[XG.mp hx];exact(WX.mp hy).2⟩⟩;rcases XE.mp hy with e|e
    .exact hT.1.all y (WX.mp e).1
    .rw[XG.mp e];exact xr
   have mI:∀y,y∈VH U z++[z]↔(y∈U/\y<z)\/y=z:=λy=>by rw[XE,WX,XG]
   have mO:∀y,y∈VH D z↔(0<=y/\y<(ps.length:Int))/\y∉U/\y<z:=λy=>by rw[WX,Qw,and_assoc]
   refine⟨w,iA,l2,n,ps,VH U z++[z],VH D z,Z,hW.same<|s35.trans s6,hG,ZG s6 hi5,SqT.of PX,RV.nodup,RV.all,Yv (YF ..) uD,λy h1 h2=>?_,λc H7 hc s7=>Xk _ _ ⟨s3.trans<|Hy.trans<|s6.trans s7,cs++[c],?_,by rw[Xu,el];rfl,λi t d hi hd=>?_⟩⟩
   .obtain⟨_,o1,o2⟩:=(mO y).mp h2;rcases(mI y).mp h1 with e|e
    .exact o1 e.1
    .omega
   .rw[YG];exact(ZE _ _).symm
   .by_cases c1:i<cs.length
    .rw[Ys c1]at hd;exact Ke i t d hi hd
    .rw[Yo uD]at hd;have jr:i-cs.length=0:=by
      have:=(Xr.mp hd).1
      have h1:([c]:List Nat).length=1:=rfl;omega
     rw[jr]at hd;obtain rfl:c=d:=Ye hd;have ei:i=j:=uD
     rw[ei,hz]at hi;obtain rfl:=Ye hi;exact⟨_,_,hc,mI,mO⟩
  rintro zs H3 ⟨s3,cs,rfl,el,Ke⟩ sA hsA;refine⟨sA,_,Z,SqL.of XS,?_⟩;rw[jt];rw[XD]at el;exact q _ _ (Ci hT D Qw (MF hD) cs el Ke) (RX.trans<|s3.trans<|XZ hsA)
inductive spZx(K:Ad)(C:Addr)(vs:List V)(H:Hp)(Q:VK)(_:XK):Prop
 |mk (w a:Addr) (n:Int) (ps:Aa) (kd:Bool) (ts:Ac) (_:vs=[.ref w,.ref a]) (_:WebAt C H w n ps) (_:Zz n ps) (_:SqK kd K H a (IL ts)) (_:Zf n ps ts) (_:∀(v:V)(o:Option Ac)(H':Hp),Same H H'->TupN H' v o->CD n ps ts o->Q v H')
theorem Hx:FnScope ["web","tree","beside","tie","found"] ["web","tree"] (Xt (top 49)):=WC B
theorem jq(T:Txt K mg t):Xf P w base Xo T.qZx 8 (spZx K t.A_Web):=by
 refine T.qZx.okI ["web","tree","beside","tie","found"] B λXC A outer s H vs Q E hr h=>?_
 .obtain⟨w,a,n,ps,kd,ts,rfl,hW,hG,hS,hT,q⟩:=h;refine⟨_,(XQ (Zg (i:=2) Hx.nd Z (Or.inl Z)<|XA (HR T) hr T.qZa Zs<|XY (pv 0)<|XY (pv 1) XW)
   (XQ (Va YQ Z (pB K Z T.n_reversed<|XY (pv 1) XW) (Ze (i:=3) Hx.nd Z<|Or.inl Z)
   (XQ (Zg (i:=4) Hx.nd Z (Or.inl Z)<|XA (HG T) hr T.qZt Zs<|XY (pv 0)<|XY (XA (LX T) hr T.qZv Zs<|XY (pv 1)<|XY (pv 3) XW)<|XY (Zr (pR K) (XA (LX T) hr T.qZv Zs<|XY (pv 2)<|XY (pv 3) XW)<|WN<|XY (pv 3) XW) XW)
   (XN (Xx (Zh fG (pv 4) Qp<|Zo _)
   (XN<|Zi<|pv 4)
   Zm))))
   (XN<|Zi Qp))),?_⟩
  have g3:=hG.2.2.1;have tl:=hT.1.len
  have aT:=MA hT;refine⟨_,Z,_,Z,w,a,n,ps,kd,ts,Z,hW,uD,hS,λD wb hD dA H1 s1 Ax=>?_⟩;have Aw:IsSet ps.length D:=XX.mpr ⟨λz hz=>((hD z).mp hz).1,wb⟩
  have dl:=Aw.len;refine⟨_,Z,a,Z,pz (K:=K) (k:=kd) (a:=a) (xs:=IL ts) (by rw[XD];omega) (λi σ H2=>∃v3 v4,σ=[some (.ref w),some<|.ref a,some<|.ref dA,v3,v4]/\Same H1 H2/\∀(j:Nat) t',ts[j]?=some t'->ts.length<=j+i->∀U,Zf n ps U->¬Dp t' ts U)
   ⟨_,_,Z,Same.refl _,λj t' hj h=>absurd (Xr.mp hj).1 uD⟩ (λi σ H2 _ zz=>by obtain⟨_,_,_,e,_⟩:=zz;exact hS.same<|s1.trans e) ?_ ?_⟩
  .rintro i v σ H2 hv hi ⟨v3,v4,rfl,s2,Vi⟩;obtain⟨t,rfl,ht⟩:=WQ hv;rw[XD]at ht hi;have htT:=Xi ht
   have Wv:=s1.trans s2;have jo:∀t'∈ts,t<t'->∀U,Zf n ps U->¬Dp t' ts U:=λt' h' Xn=>by
    obtain⟨j,hj⟩:=VX h';refine Vi j t' hj ?_;obtain⟨h1,e1⟩:=Xr.mp hj;obtain⟨h2,e2⟩:=Xr.mp ht;have hp:=Ka.mp aT
    rcases(by omega:ts.length<=j+i\/j=ts.length-1-i\/j<ts.length-1-i) with e|e|e
    .exact e
    .subst e;omega
    .have:=hp j _ h1 h2 e
     omega
   refine nm ?_;refine⟨_,Z,_,Z,_,Z,a,t,kd,ts,Z,hS.same Wv,uD,λrA H3 s3 Ov=>?_⟩;refine⟨_,Z,_,Z,dA,t,true,D,Z,SqT.of<|(s2.trans s3) _ _ Ax,uD,λrB H4 s4 hrB=>?_⟩;refine⟨_,Z,(by show 1<=sizeLine;decide),λrC hrC=>?_⟩;have s5:=XZ (o:=.tup [.int t]) hrC
   have dll:(VH D t).length<=D.length:=YF ..;refine⟨rB,rC,_,_,Z,Z,s5 _ _ hrB,XS,TY (by rw[XD];show _+1<=_;omega),λrD H6 s6 hrD=>?_⟩;have jm:=s2.trans (s3.trans<|s4.trans<|s5.trans s6)
   have vZ:=s4.trans (s5.trans s6);have hI1:IsSet ps.length (VH ts t):=XX.mpr ⟨λz hz=>hT.1.all z (WX.mp hz).1,aT.filter _⟩
   have hd1:∀z∈VH ts t,z∉VH D t++[t]:=λz hz h=>by
    have a:=WX.mp hz;rcases XE.mp h with e|e
    .exact((hD z).mp (WX.mp e).1).2 a.1
    .have:=XG.mp e
     omega
   have eC:IL (VH D t)++[.int t]=IL (VH D t++[t]):=(ZE _ _).symm;rw[eC]at hrD;refine⟨w,rA,rD,n,ps,VH ts t,VH D t++[t],Z,hW.same<|s1.trans jm,hG,SqT.of<|vZ _ _ Ov,SqT.of hrD,hI1.nodup,hI1.all,hd1,λH7 s7 h7=>?_,λr F H7 s7 hr hF hl=>?_⟩
   .refine⟨_,Z,Z,_,Z,?_⟩;refine QS (c:=V.non=V.non) Z ?_;refine⟨_,_,Z,jm.trans s7,λj t' hj Um U hU hd=>?_⟩;by_cases e:ts.length<=j+i
    .exact Vi j t' hj e U hU hd
    .have ej:j=ts.length-1-i:=uD;rw[ej,ht]at hj;obtain rfl:=Ye hj;exact h7 U ((pw hT hD htT).mpr ⟨hU,hd⟩)
   .refine⟨_,Z,Z,_,Z,?_⟩;refine IY (c:=V.ref r=V.non) (λz=>nomatch z) ?_;exact⟨_,Z,q (.ref r) (some F) H7 (s1.trans<|jm.trans s7) ⟨r,Z,hr⟩<|pq hT hD htT jo hF hl⟩
  .rintro σ H2 ⟨v3,v4,rfl,s2,Vi⟩;rw[XD]at Vi;refine q .non none H2 (s1.trans s2) Z (pj hT λt' h'=>?_);obtain⟨j,hj⟩:=VX h';exact Vi j t' hj uD
inductive spZy(K:Ad)(C:Addr)(vs:List V)(H:Hp)(Q:VK)(_:XK):Prop
 |mk (w a:Addr) (n:Int) (ps:Aa) (kd:Bool) (ts:Ac) (_:vs=[.ref w,.ref a]) (_:WebAt C H w n ps) (_:Zz n ps) (_:SqK kd K H a (IL ts)) (_:Zf n ps ts) (_:∀(v:V)(o:Option Ac)(H':Hp),Same H H'->TupN H' v o->CD n ps ts o->Q v H')
theorem jk(T:Txt K mg t):Xf P w base Xo T.qZy 9 (spZy K t.A_Web):=by
 refine T.qZy.okI ["web","tree"] B λXC A outer s H vs Q E hr h=>?_
 .obtain⟨w,a,n,ps,kd,ts,rfl,hW,hG,hS,hT,q⟩:=h;refine⟨_,(XQ (ZS<|XA (LZ T) hr T.qZp Zs<|XY (pv 0)<|XY (pv 1) XW)
   (XN<|Zi<|XA (jq T) hr T.qZx Zs<|XY (pv 0)<|XY (pv 1) XW)),?_⟩
  refine⟨_,Z,_,Z,w,a,n,ps,kd,ts,Z,hW,hG,hS,λ_ H0 s0=>?_,λh=>absurd hT h⟩;exact⟨_,Z,_,Z,w,a,n,ps,kd,ts,Z,hW.same s0,hG,hS.same s0,hT,λv o H' s=>q v o H'<|s0.trans s⟩
inductive spZz(K:Ad)(C:Addr)(vs:List V)(H:Hp)(Q:VK)(_:XK):Prop
 |mk (w m n ps M z:_) (_:vs=[.ref w,.ref m,.int z]) (_:WebAt C H w n ps) (_:Zz n ps) (_:H m=some (.lst<|IL M)) (_:M.length=n.toNat) (_:0<=z) (_:z<(ps.length:Int)) (_:∀r l H',l.Perm [mk M (ps.getD z.toNat (0,0)).1.toNat,mk M (ps.getD z.toNat (0,0)).2.toNat]->l.Pairwise (·<=·)->Same H H'->H' r=some (.lst<|IL l)->Q (.ref r) H')
theorem jj:FnScope ["web","marks","tie","ends"] ["web","marks","tie"] (Xt (top 53)):=WC B
theorem Ap(T:Txt K mg t):Xf P w base Xo T.qZz 1 (spZz K t.A_Web):=by
 refine T.qZz.okI ["web","marks","tie","ends"] B λXC A outer s H vs Q E hr h=>?_
 .obtain⟨w,m,n,ps,M,z,rfl,hW,hG,hM,PV,z0,z1,q⟩:=h;refine⟨_,(XQ (Zg (i:=3) jj.nd Z (Or.inl Z)<|ZC (Zc K) (Zp K (pv 0) Z) (pv 2) λ_ _=>rfl)
   (XN<|Zi<|Zd (xN K) uG T.n_sorted Boot.«sorted»<|XY (ZZ<|XY (ZC (Zc K) (pv 1) (ZC (ZK K) (pv 3) XO λ_ _=>rfl) λ_ _=>rfl)<|XY (ZC (Zc K) (pv 1) (ZC (ZK K) (pv 3) XO λ_ _=>rfl) λ_ _=>rfl) XW) XW)),?_⟩
  obtain⟨g1,g2,g3,g4⟩:=id hG;obtain⟨dx,tl,xs,h1,h2,h3⟩:=id hW;obtain⟨p,hp⟩:∃p,ps[z.toNat]?=some p:=⟨_,Xw J⟩;have ep:ps.getD z.toNat (0,0)=p:=ZW hp
  rw[ep]at q;obtain⟨v,hv,tt,rfl,Us⟩:=h3.2 _ p hp;obtain⟨e1,e2,e3,e4⟩:=g4 p (Xi hp);have t0:Wr ([.int p.1,.int p.2]:List V) 0=some (.int p.1):=rfl
  have t1:Wr ([.int p.1,.int p.2]:List V) 1=some (.int p.2):=rfl;have iA:Wr (IL M) p.1=some (.int<|mk M p.1.toNat):=Zv (n:=p.1.toNat) J (UX<|Si uE)
  have iB:Wr (IL M) p.2=some (.int<|mk M p.2.toNat):=Zv (n:=p.2.toNat) J (UX<|Si uE);refine⟨_,Z,w,_,dx,_,_,Z,h1,T.cl_Web,T.n_Web_ties,Pe _ _,_,Z,tl,_,_,.ref tt,Z,Z,SqL.of h2,Zv (n:=z.toNat) J hv,?_⟩;refine nm ?_;refine⟨_,Z,_,Z,tt,_,0,_,Z,Z,SqT.of Us,t0,m,_,p.1,_,Z,Z,SqL.of hM,iA,_,Z,_,Z,tt,_,1,_,Z,Z,SqT.of Us,t1,m,_,p.2,_,Z,Z,SqL.of hM,iB,(by show 2<=sizeLine;decide),λa ha=>?_⟩;have s1:=XZ (o:=.lst<|IL [mk M p.1.toNat,mk M p.2.toNat]) ha
  refine⟨a,[mk M p.1.toNat,mk M p.2.toNat],Z,SqL.of XS,(by show 2<64;decide),λl hl hs r hr=>?_⟩;exact q r l _ hl hs (s1.trans<|XZ hr) XS
inductive spZA(K:Ad)(C:Addr)(vs:List V)(H:Hp)(Q:VK)(_:XK):Prop
 |mk (w m a n ps M g:_) (_:vs=[.ref w,.ref m,.ref a]) (_:WebAt C H w n ps) (_:Zz n ps) (_:H m=some (.lst<|IL M)) (_:M.length=n.toNat) (_:SqT K H a (IL g)) (_:∀r H',Same H H'->H r=none->H' r=some (.lst<|IL<|Mm M ps g ps.length)->Q (.ref r) H')
theorem Ao(T:Txt K mg t):Xf P w base Xo T.qZA 1 (spZA K t.A_Web):=by
 refine T.qZA.okI ["web","marks","gone"] B λXC A outer s H vs Q E hr h=>?_
 .obtain⟨w,m,a,n,ps,M,g,rfl,hW,hG,hM,PV,hA,q⟩:=h;refine⟨_,(XN<|Zi<|WG Z (sc0:=Xt<|top 54) (N0:=["web","marks","gone"]) (N':=["tie","ends","gone","marks"]) (o:=2) (fr:=[2,1]) ⟨Z,B,B,B,Z,B⟩ (Gh K Z T.n_enumerate<|XY (Zp K (pv 0) Z) XW) (Pl<|NH uB<|NH uB Pm) (λ_ _ _ _=>(Qj (n:=2) K Z<|Zw (Ze (i:=0) (show List.Nodup (["tie","ends","gone","marks"]:List Str) by decide +kernel) Z<|Or.inl Z)<|Zw (Ze (i:=1) (show List.Nodup (["tie","ends","gone","marks"]:List Str) by decide +kernel) Z<|Or.inl Z) Qo)) (λ_ _ _ _=>(Qm<|PW.pt<|Ew (Zh (Gk K) (pv 0) (pv 2) Z)<|Ex<|Zh Ub (ZC (Zc K) (pv 3) (ZC (ZK K) (pv 1) XO λ_ _=>rfl) λ_ _=>rfl) (ZC (Zc K) (pv 3) (ZC (ZK K) (pv 1) XO λ_ _=>rfl) λ_ _=>rfl)<|Zo _)) λ_ _ _ _=>(pv 0)),?_⟩;obtain⟨g1,g2,g3,g4⟩:=id hG;obtain⟨dx,tl,xs,h1,h2,h3⟩:=id hW;have RH:=h3.1
  refine⟨_,Z,w,_,dx,_,_,Z,h1,T.cl_Web,T.n_Web_ties,Pe _ _,tl,Z,⟨_,SqL.of h2⟩,xH (K:=K) (a:=tl) (xs:=xs) (λi ys H3=>Same H H3/\i<=xs.length/\ys=IL (Mm M ps g i)) ⟨Same.refl _,Yj _,Z⟩ (Zl J)
   (λi ys H3 _ h=>by obtain⟨e,_,ey⟩:=h;exact⟨SqL.of<|e _ _ h2,by rw[ey,XD];exact k6 _ _ _ _⟩) ?_ ?_⟩
  .rintro i x ys H3 pt RY hi ⟨s3,VB,rfl⟩ uz Xk;obtain⟨p,Pa,tt,rfl,Us⟩:=h3.at hi;obtain⟨e1,e2,e3,e4⟩:=g4 p (Xi Pa);have Xj:i<xs.length:=(Xr.mp hi).1
   have s4:Same H3 (upd H3 pt<|.tup [.int i,.ref tt]):=XZ RY;have Rw:=s3.trans s4
   have Oi:=Rw _ _ Us;have Ay:=Rw _ _ hM
   have Kh:=SqK.same (k:=true) Rw hA;have ed:ps.getD i (0,0)=p:=ZW Pa
   have t0:Wr ([.int p.1,.int p.2]:List V) 0=some (.int p.1):=rfl;have t1:Wr ([.int p.1,.int p.2]:List V) 1=some (.int p.2):=rfl
   have iA:Wr (IL M) p.1=some (.int<|mk M p.1.toNat):=Zv (n:=p.1.toNat) J (UX<|Si uE);have iB:Wr (IL M) p.2=some (.int<|mk M p.2.toNat):=Zv (n:=p.2.toNat) J (UX<|Si uE)
   have hs:=k7 M ps g i;rw[ed]at hs;refine⟨pt,_,Z,SqT.of XS,Z,_,_,Z,_,_,Z,Z,?_⟩;refine⟨_,Z,_,Z,a,_,Z,.inr Kh,Z,ZT _,_,Z,?_⟩;rw[Pb];refine WK (λhe=>?_) (λhe=>?_)
   .refine Xk _ _ ⟨Rw,Xj,?_⟩;rw[hs,if_neg λh=>h.1 he,YI]
   refine⟨_,Z,_,Z,tt,_,0,_,Z,Z,SqT.of Oi,t0,m,_,p.1,_,Z,Z,SqL.of Ay,iA,_,Z,_,Z,tt,_,1,_,Z,Z,SqT.of Oi,t1,m,_,p.2,_,Z,Z,SqL.of Ay,iB,Z,_,Z,?_⟩;rw[Zy];refine WK (λhx=>?_) (λhx=>?_)
   .refine Xk _ _ ⟨Rw,Xj,?_⟩;rw[hs,if_neg λh=>h.2 hx,YI]
   .refine⟨_,Z,Xk _ _ ⟨Rw,Xj,?_⟩⟩;rw[hs,if_pos ⟨he,hx⟩,ZE]
  .rintro ys H3 ⟨s3,_,rfl⟩ p hp;rw[RH];exact q p _ (s3.trans<|XZ hp) (s3.free hp) XS
def An(st:Stmt):Pos:=match (QU st).getD 9 (.Pass ⟨0,0,0,0⟩) with
 | .Assign _ (.Call _ _ [k] _) _=>(match k.value with
  | .Lambda _ _ _ p=>p
  |_=>⟨0,0,0,0⟩)
 |_=>⟨0,0,0,0⟩
def ji:Str:=Str.ofString "Part.__init__"++Str.ofString ".<locals>."++Str.ofString "<lambda>"
abbrev WY(H:Hp)(Pt:Addr):Prop:=TabH H Pt (An sZB) ji
inductive sp_Part_init(K:Ad)(CP C Pt:Addr)(vs:List V)(H:Hp)(Q:VK)(_:XK):Prop
 |mk (x dx w a b n ps I O ld:_) (_:vs=[.ref x,.ref w,.ref a,.ref b,WZ ld]) (_:H x=some (.ins CP dx [])) (_:WebAt C H w n ps) (_:Zz n ps) (_:WY H Pt) (_:SqT K H a (IL I)) (_:SqT K H b (IL O)) (_:I.Nodup) (_:(∀z∈I,0<=z/\z<(ps.length:Int))) (_:(∀z∈I,z∉O)) (_:O.length<=30) (_:(∃U,With n ps I O U)) (_:(∀y,ld=some y->0<=y/\y<(ps.length:Int))) (_:(ld=none->∀F,With n ps I O F->(∀U,With n ps I O U->HT.lexLt U F=false)->WO n ps I O F=[])) (_:∀F inc fu l i H',With n ps I O F->(∀U,With n ps I O U->HT.lexLt U F=false)->Ry (λz=>PyProof.Rows.b2i<|decide<|ld=some z) (SX n ps I O F ld) inc->(fu=none↔VM n ps I O F ld=[])->(∀y,fu=some y->y∈VM n ps I O F ld/\∀z∈VM n ps I O F ld,y<=z)->H' x=some (.ins CP dx<|wQ (.ref w) (.ref a) (.ref b) (WZ ld) (.ref l) (.ref i)<|WZ fu)->H' l=some (.tup<|IL F)->H' i=some (.lst<|IL inc)->(∀b o,b≠x->b≠Pt->H b=some o->H' b=some o)->WY H' Pt->Q .non H')
theorem Oh:FnScope ["self","web","kept","shut","lead","marks","opened","alike","unlike"] ["self","web","kept","shut","lead"] (Xt sZB):=WC B
theorem Hw{Pt:Addr}(T:Txt K mg t)(hB:Qc K mg base t.dZB Pt):FnOk P w K mg base Xo 8 t.aZB t.dZB ["self","web","kept","shut","lead"] (sp_Part_init K t.A_Part t.A_Web Pt):=by
 obtain⟨cA,Uk,hC,hBa,BH⟩:=hB;refine T.fZB.okL Uk Oh (λvs H Q E h=>?_) (λA outer s H vs Q E hr h=>?_)
 .obtain⟨x,dx,w,a,b,n,ps,I,O,ld,rfl,_⟩:=h;rfl
 .obtain⟨x,dx,w,a,b,n,ps,I,O,ld,rfl,hx,hW,hG,hT,hA,Ru,hIn,Xm,VZ,Rt,⟨U0,Fw⟩,Be,Vi,q⟩:=h;refine⟨_,(XQ (MO (pv 0) (pv 1) Z)
   (XQ (MO (pv 0) (pv 2) Z)
   (XQ (MO (pv 0) (pv 3) Z)
   (XQ (MO (pv 0) (pv 4) Z)
   (XQ (MO (pv 0) (XA (HG T) hr T.qZt Zs<|XY (pv 1)<|XY (pv 2)<|XY (pv 3) XW) Z)
   (XQ (Zg (i:=5) Oh.nd Z (Or.inr Z)<|XA (Qx T) hr T.qZg Zs<|XY (pv 1)<|XY (pv 2) XW)
   (XQ (Zg (i:=6) Oh.nd Z (Or.inl Z)<|XA (Ao T) hr T.qZA Zs<|XY (pv 1)<|XY (pv 5)<|XY (Zr (OX K) (Zr (OX K) (pv 2)<|pv 3)<|Zp K (pv 0) Z) XW)
   (XQ (Zg (i:=7) Oh.nd Z (Or.inr Z)<|WG Z (sc0:=Xt sZB) (N0:=["self","web","kept","shut","lead","marks","opened","alike","unlike"]) (N':=["tie","web","marks","lead"]) (o:=1) (fr:=[1,5,4]) ⟨Z,B,B,B,Z,B⟩ (ZQ K<|pv 6) (Zt uB) (λ_ _ _ _=>(Ze (i:=0) (show List.Nodup (["tie","web","marks","lead"]:List Str) by decide +kernel) Z<|Or.inl Z)) (λ_ _ _ _=>(Qm<|Zh (qU K<|Gm hr) (XA (Ap T) hr T.qZz Zs<|XY (pv 1)<|XY (pv 2)<|XY (pv 0) XW) (XA (Ap T) hr T.qZz Zs<|XY (pv 1)<|XY (pv 2)<|XY (pv 3) XW)<|Zo _)) λ_ _ _ _=>(pv 0))
   (XQ (Uz (i:=8) Z Oh.nd Z Z (sc0:=Xt sZB) (N0:=["self","web","kept","shut","lead","marks","opened","alike","unlike"]) (N':=["tie","alike"]) (o:=1) (fr:=[7]) ⟨Z,B,B,B,Z,B⟩ (ZQ K<|pv 6) (Zt uB) (λ_ _ _ _=>(Ze (i:=0) (show List.Nodup (["tie","alike"]:List Str) by decide +kernel) Z<|Or.inl Z)) (λ_ _ _ _=>(Qm<|Zh (Gk K) (pv 0) (pv 1) Z)) λ_ _ _ _=>(pv 0))
   (XQ (MO (pv 0) (ZZ5 (k:=0) (i:=4) (v:="tie") (x:="lead") (pv 7) uG T.n_sorted (hr.mono uB) rfl rfl hC hBa BH (LamScope.of rfl rfl rfl (by first|exact .inl rfl|exact .inr rfl) uB) rfl rfl (λ_ _ _ _=>rfl) rfl rfl rfl λ_ _ _ _ _ _ hr=>(Sn SH (pv 0) (pv 1)<|Zo _)) rfl)
   (XN<|MO (pv 0) (bB Z uG T.n_min<|pv 8) Z))))))))))),?_⟩
  obtain⟨g1,g2,g3,g4⟩:=id hG;refine⟨_,Z,_,Z,x,_,dx,[],Z,hx,T.cl_Part,T.n_Part_web,(by show 0<1000;decide),?_⟩;refine⟨_,Z,_,Z,x,_,dx,_,Z,XS,T.cl_Part,T.n_Part_kept,(by show 1<1000;decide),?_⟩;refine⟨_,Z,_,Z,x,_,dx,_,Z,XS,T.cl_Part,T.n_Part_shut,(by show 2<1000;decide),?_⟩;refine⟨_,Z,_,Z,x,_,dx,_,Z,XS,T.cl_Part,T.n_Part_lead,(by show 3<1000;decide),?_⟩;change Vc _ _ _ [some (.ref x),some<|.ref w,some<|.ref a,some<|.ref b,some<|WZ ld,none,none,none,none] (upd (upd (upd (upd H x<|.ins t.A_Part dx<|XM "web" (.ref w) []) x<|.ins t.A_Part dx<|XM "kept" (.ref a)<|XM "web" (.ref w) []) x<|.ins t.A_Part dx<|XM "shut" (.ref b)<|XM "kept" (.ref a)<|XM "web" (.ref w) []) x<|.ins t.A_Part dx<|XM "lead" (WZ ld)<|XM "shut" (.ref b)<|XM "kept" (.ref a)<|XM "web" (.ref w) []);have Sx:SameX x H (upd (upd (upd (upd H x<|.ins t.A_Part dx<|XM "web" (.ref w) []) x<|.ins t.A_Part dx<|XM "kept" (.ref a)<|XM "web" (.ref w) []) x<|.ins t.A_Part dx<|XM "shut" (.ref b)<|XM "kept" (.ref a)<|XM "web" (.ref w) []) x<|.ins t.A_Part dx<|XM "lead" (WZ ld)<|XM "shut" (.ref b)<|XM "kept" (.ref a)<|XM "web" (.ref w) []):=((WB.trans WB).trans WB).trans WB
  have wk:(upd (upd (upd (upd H x<|.ins t.A_Part dx<|XM "web" (.ref w) []) x<|.ins t.A_Part dx<|XM "kept" (.ref a)<|XM "web" (.ref w) []) x<|.ins t.A_Part dx<|XM "shut" (.ref b)<|XM "kept" (.ref a)<|XM "web" (.ref w) []) x<|.ins t.A_Part dx<|XM "lead" (WZ ld)<|XM "shut" (.ref b)<|XM "kept" (.ref a)<|XM "web" (.ref w) []) x=some (.ins t.A_Part dx [("web",.ref w),("kept",.ref a),("shut",.ref b),("lead",WZ ld)]):=XS;generalize upd (upd (upd (upd H x<|.ins t.A_Part dx<|XM "web" (.ref w) []) x<|.ins t.A_Part dx<|XM "kept" (.ref a)<|XM "web" (.ref w) []) x<|.ins t.A_Part dx<|XM "shut" (.ref b)<|XM "kept" (.ref a)<|XM "web" (.ref w) []) x (.ins t.A_Part dx<|XM "lead" (WZ ld)<|XM "shut" (.ref b)<|XM "kept" (.ref a)<|XM "web" (.ref w) [])=H4 at *;have Fv:=hW.but hx Sx
  have Kh:=Bv hA hx Sx;have jG:=Bv Ru hx Sx
  have il:I.length<=ps.length:=by
   have:=IC (m:=Wi ps.length) hIn λz hz=>Xq.mpr (Xm z hz)
   rwa[ZI]at this
  refine⟨_,Z,_,Z,_,Z,w,a,b,n,ps,I,O,Z,Fv,hG,Kh,jG,hIn,Xm,VZ,λH5 s5 h=>absurd Fw<|h U0,λl F H5 s5 hl hF Vn=>?_⟩;refine⟨_,Z,x,_,dx,_,Z,s5 _ _ wk,T.cl_Part,T.n_Part_least,(by show 4<1000;decide),?_⟩;have Hv:SameX x H H5:=Sx.trans (SameX.same s5)
  have vY:SameX x H (upd H5 x<|.ins t.A_Part dx<|XM "least" (.ref l) [("web",.ref w),("kept",.ref a),("shut",.ref b),("lead",WZ ld)]):=Hv.trans WB;have hx6:(upd H5 x<|.ins t.A_Part dx<|XM "least" (.ref l) [("web",.ref w),("kept",.ref a),("shut",.ref b),("lead",WZ ld)]) x=some (.ins t.A_Part dx [("web",.ref w),("kept",.ref a),("shut",.ref b),("lead",WZ ld),("least",.ref l)]):=XS
  have PX:(upd H5 x<|.ins t.A_Part dx<|XM "least" (.ref l) [("web",.ref w),("kept",.ref a),("shut",.ref b),("lead",WZ ld)]) l=some (.tup<|IL F):=by rwa[Zb (λe=>by rw[e,s5 _ _ wk]at hl;cases hl)]
  change Vc _ _ _ [some (.ref x),some<|.ref w,some<|.ref a,some<|.ref b,some<|WZ ld,none,none,none,none] (upd H5 x<|.ins t.A_Part dx<|XM "least" (.ref l) [("web",.ref w),("kept",.ref a),("shut",.ref b),("lead",WZ ld)]);generalize upd H5 x (.ins t.A_Part dx<|XM "least" (.ref l) [("web",.ref w),("kept",.ref a),("shut",.ref b),("lead",WZ ld)])=H6 at *;refine⟨_,Z,_,Z,w,a,n,ps,I,Z,hW.but hx vY,hG,Bv hA hx vY,Xm,λm H7 s7 Ts Fz=>?_⟩;refine nm ?_;dsimp only[List.set];have PQ:SameX x H H7:=vY.trans (SameX.same s7)
  have hF1:F.length<=ps.length:=hF.1.1.len;have PV:(Xs n.toNat<|XR ps I).length=n.toNat:=ZD _ _
  refine⟨_,Z,_,Z,_,Z,_,Z,?_⟩;refine Bu (l:=I) (m:=O) (Bv hA hx PQ) (Bv Ru hx PQ) J λr1 H8 s8 Wj=>?_;have Fu:SameX x H H8:=PQ.trans (SameX.same s8)
  have jh:=s7.trans s8;refine⟨_,Z,x,_,dx,_,.ref l,Z,jh _ _ hx6,T.cl_Part,T.n_Part_least,Z,?_⟩;refine Bu (l:=I++O) (m:=F) Wj (SqT.of<|jh _ _ PX) (by rw[Xu];lia) λr2 H9 s9 Wa=>?_;have s69:=jh.trans s9
  have Ft:SameX x H H9:=Fu.trans (SameX.same s9);have wd:=s8.trans s9
  refine⟨w,m,r2,n,ps,Xs n.toNat<|XR ps I,I++O++F,Z,hW.but hx Ft,hG,wd _ _ Fz,PV,Wa,λpA Nk AF hp0 Og=>?_⟩;have Og:Nk pA=some (.lst<|IL<|WO n ps I O F):=Og
  refine nm ?_;have Fs:SameX x H Nk:=Ft.trans (SameX.same AF)
  have s6A:=s69.trans AF;have Fq:=(wd.trans AF) _ _ Fz
  have Pk:∀z∈WO n ps I O F,0<=z/\z<(ps.length:Int):=λz hz=>bx hz;have Qk:(WO n ps I O F).length<=ps.length:=k6 _ _ _ _
  refine⟨_,Z,pA,Z,⟨_,SqL.of Og⟩,QR (K:=K) (a:=pA) (xs:=IL<|WO n ps I O F) (λi ws Ma=>Same Nk Ma/\i<=(WO n ps I O F).length/\ws=IL (((WO n ps I O F).take i).filter λz=>decide<|∃y,ld=some y/\Uj (Xs n.toNat<|XR ps I) ps z=Uj (Xs n.toNat<|XR ps I) ps y)) ⟨Same.refl _,Yj _,Z⟩ (Zl<|by rw[XD];lia)
   (λi ws Ma hi h=>by obtain⟨e,Wh,ew⟩:=h;exact⟨SqL.of<|e _ _ Og,by rw[ew,XD];exact Yv (YF ..)<|by rw[Yn];lia⟩) ?_ ?_⟩
  .rintro i v ws Ma hi ⟨HJ,VB,rfl⟩ uz Xk;obtain⟨z,rfl,hz⟩:=WQ hi;obtain⟨z0,z1⟩:=Pk z (Xi hz);have Xj:i<(WO n ps I O F).length:=(Xr.mp hz).1
   obtain⟨y,rfl⟩:∃y,ld=some y:=by
    cases ld with
    |some y=>exact⟨y,Z⟩
    |none=>
     rw[Vi Z F hF Vn]at Xj;exact absurd Xj (Ws _)
   obtain⟨y0,y1⟩:=Be y rfl;refine nm ?_;refine⟨_,Z,_,Z,_,Z,w,m,n,ps,_,z,Z,hW.but hx<|Fs.trans<|SameX.same HJ,hG,HJ _ _ Fq,PV,z0,z1,λe1 l1 H12 Ui hs1 Wv KC=>?_⟩;have Hu:=HJ.trans Wv
   refine⟨_,Z,_,Z,_,Z,w,m,n,ps,_,y,Z,hW.but hx<|Fs.trans<|SameX.same Hu,hG,Hu _ _ Fq,PV,y0,y1,λe2 l2 H13 SD To vX Ph=>?_⟩;refine⟨1,_,e1,e2,Z,Z,uB,eE (SqL.of<|vX _ _ KC)<|SqL.of Ph,_,Z,?_⟩;have ed:decide (l1=l2)=decide (∃y_1,some y=some y_1/\Uj (Xs n.toNat<|XR ps I) ps z=Uj (Xs n.toNat<|XR ps I) ps y_1):=by
    rw[bz Ui hs1,bz SD To,EX];constructor
    .intro e;injection e with e1 e2
     injection e2 with e2 _;exact⟨y,Z,Prod.ext e1 e2⟩
    .rintro⟨y',e,e'⟩;cases e;obtain⟨e1,e2⟩:=Prod.mk.inj e';rw[e1,e2]
   have Am:=Hu.trans vX;show(if decide (l1=l2)=true then _ else _)
   rw[ed];refine Xh (λhc=>?_) (λhc=>?_)
   .refine⟨_,Z,Xk _ _ ⟨Am,Xj,?_⟩⟩;rw[TV hz,if_pos<|Yp hc,ZE]
   .refine Xk _ _ ⟨Am,Xj,?_⟩;rw[TV hz,if_neg (by simpa using hc),YI]
  rintro ws Ma ⟨HJ,_,rfl⟩ kA hkA;rw[XD,YD];have ea:((WO n ps I O F).filter λz=>decide<|∃y,ld=some y/\Uj (Xs n.toNat<|XR ps I) ps z=Uj (Xs n.toNat<|XR ps I) ps y)=SX n ps I O F ld:=rfl
  rw[ea];have aw:(SX n ps I O F ld).length<=ps.length:=Yv (YF ..) Qk
  have v1:=XZ (o:=.lst<|IL<|SX n ps I O F ld) hkA;have kK:(upd Ma kA<|.lst<|IL<|SX n ps I O F ld) kA=some (.lst<|IL<|SX n ps I O F ld):=XS
  refine nm ?_;dsimp only[List.set];have sAB:=HJ.trans v1
  change Vc _ _ _ _ (upd Ma kA<|.lst<|IL<|SX n ps I O F ld);generalize upd Ma kA (.lst<|IL<|SX n ps I O F ld)=H14 at *;have hpB:=sAB _ _ Og
  refine⟨_,Z,pA,Z,⟨_,SqL.of hpB⟩,QR (K:=K) (a:=pA) (xs:=IL<|WO n ps I O F) (λi ws Kd=>Kd=H14/\i<=(WO n ps I O F).length/\ws=IL (((WO n ps I O F).take i).filter λz=>decide<|z∉SX n ps I O F ld)) ⟨Z,Yj _,Z⟩ (Zl<|by rw[XD];lia)
   (λi ws Kd hi h=>by obtain⟨e,Wh,ew⟩:=h;exact⟨e▸SqL.of hpB,by rw[ew,XD];exact Yv (YF ..)<|by rw[Yn];lia⟩) ?_ ?_⟩
  .rintro i v ws Kd hi ⟨rfl,VB,rfl⟩ uz Xk;obtain⟨z,rfl,hz⟩:=WQ hi;have Xj:i<(WO n ps I O F).length:=(Xr.mp hz).1
   refine nm ?_;refine⟨_,Z,_,Z,kA,_,Z,.inl<|SqL.of kK,Z,ZT _,_,Z,?_⟩;rw[Pb];refine WK (λhe=>?_) (λhe=>?_)
   .refine Xk _ _ ⟨Z,Xj,?_⟩;rw[TV hz,if_neg (by simpa using he),YI]
   .refine⟨_,Z,Xk _ _ ⟨Z,Xj,?_⟩⟩;rw[TV hz,if_pos<|Yp he,ZE]
  rintro ws Kd ⟨rfl,_,rfl⟩ uA huA;rw[XD,YD];have eu:((WO n ps I O F).filter λz=>decide<|z∉SX n ps I O F ld)=VM n ps I O F ld:=rfl
  rw[eu];have v2:=XZ (o:=.lst<|IL<|VM n ps I O F ld) huA
  have kU:(upd Kd uA<|.lst<|IL<|VM n ps I O F ld) uA=some (.lst<|IL<|VM n ps I O F ld):=XS;refine nm ?_;have jg:=(s6A.trans sAB).trans v2
  have kKU:=v2 _ _ kK;have sxU:SameX x H (upd Kd uA<|.lst<|IL<|VM n ps I O F ld):=vY.trans (SameX.same jg)
  have IB:=jg _ _ hx6;have hlU:=jg _ _ PX
  change Vc _ _ _ _ (upd Kd uA<|.lst<|IL<|VM n ps I O F ld);generalize upd Kd uA (.lst<|IL<|VM n ps I O F ld)=H16 at *;have LW:WY H16 Pt:=k5 hT hx sxU
  refine⟨_,Z,kA,SX n ps I O F ld,WZ ld,λz=>decide<|ld=some z,Z,SqL.of kKU,J,LW,Z,λAl Of z hz=>?_,λinc iA Al Vb Of Ak jf=>?_⟩
  .refine⟨_,rfl,_,rfl,(by cases ld<;>rfl),?_,rfl⟩
   show V.bl (decide<|V.int z=WZ ld)=V.bl (decide<|ld=some z);cases ld with
   |none=>rfl
   |some y=>
    show V.bl (decide<|V.int z=V.int y)=V.bl (decide<|some y=some z);rw[Zy];congr 1;rw[EX];exact⟨λe=>by rw[e],λe=>(Ye e).symm⟩
  have hxP:x≠Pt:=LW.ne IB S;have v3:=XZ (o:=.lst<|IL inc) jf
  have Aj:=v3 _ _ (Of _ _ hxP IB);have Ai:=v3 _ _ (Of _ _ (LW.ne hlU S) hlU)
  have Ah:=v3 _ _ (Of _ _ (LW.ne kU S) kU);have z9:(upd Al iA<|.lst<|IL inc) iA=some (.lst<|IL inc):=XS
  have z8:WY (upd Al iA<|.lst<|IL inc) Pt:=Ak.same v3;have Ht:∀b o,b≠x->b≠Pt->H b=some o->(upd Al iA<|.lst<|IL inc) b=some o:=λb o h1 h2 e=>v3 _ _ (Of _ _ h2<|sxU _ _ h1 e)
  change tVar _ _ _ _;generalize upd Al iA (.lst<|IL inc)=z7 at *;refine⟨_,Z,x,_,dx,_,Z,Aj,T.cl_Part,T.n_Part_incoming,(by show 5<1000;decide),?_⟩;have Oe:∀c o,z7 c=some o->(∀a b fs,o≠.ins a b fs)->c≠x:=λc o h ho e=>by rw[e,Aj]at h;exact ho _ _ _ (Ye h).symm
  have je:(upd z7 x<|.ins t.A_Part dx<|XM "incoming" (.ref iA) [("web",.ref w),("kept",.ref a),("shut",.ref b),("lead",WZ ld),("least",.ref l)]) uA=some (.lst<|IL<|VM n ps I O F ld):=by rw[Zb (Oe _ _ Ah S)];exact Ah
  have fin:∀fu:Option Int,(fu=none↔VM n ps I O F ld=[])->(∀y,fu=some y->y∈VM n ps I O F ld/\∀z∈VM n ps I O F ld,y<=z)->Q .non (upd (upd z7 x<|.ins t.A_Part dx<|XM "incoming" (.ref iA) [("web",.ref w),("kept",.ref a),("shut",.ref b),("lead",WZ ld),("least",.ref l)]) x<|.ins t.A_Part dx<|wQ (.ref w) (.ref a) (.ref b) (WZ ld) (.ref l) (.ref iA)<|WZ fu):=λfu h1 h2=>by
   have up:∀c o,c≠x->z7 c=some o->(upd (upd z7 x<|.ins t.A_Part dx<|XM "incoming" (.ref iA) [("web",.ref w),("kept",.ref a),("shut",.ref b),("lead",WZ ld),("least",.ref l)]) x<|.ins t.A_Part dx<|wQ (.ref w) (.ref a) (.ref b) (WZ ld) (.ref l) (.ref iA)<|WZ fu) c=some o:=λc o h e=>by rw[Zb h,Zb h];exact e
   obtain⟨tp,t1,t2,t3⟩:=id z8;refine q F inc fu l iA _ hF Vn Vb h1 h2 XS (up _ _ (Oe _ _ Ai S) Ai) (up _ _ (Oe _ _ z9 S) z9) (λb o b1 b2 e=>up _ _ b1<|Ht b o b1 b2 e) ⟨tp,up _ _ (Oe _ _ t1 S) t1,t2,?_⟩;rcases t3 with h|⟨c,h,h'⟩
   .exact .inl h
   .exact .inr ⟨c,h,up _ _ (Oe _ _ h'<|by unfold FL;simp) h'⟩
  refine⟨_,Z,uA,VM n ps I O F ld,Z,SqL.of je,λe=>?_,λmn Td Wz=>?_⟩
  .refine⟨_,Z,x,_,dx,_,Z,XS,T.cl_Part,T.n_Part_further,(by show 6<1000;decide),?_⟩;exact fin none ⟨λ_=>e,λ_=>rfl⟩ λy h=>by cases h
  .refine⟨_,Z,x,_,dx,_,Z,XS,T.cl_Part,T.n_Part_further,(by show 6<1000;decide),?_⟩;exact fin (some mn) ⟨λh=>(by cases h),λh=>(by rw[h]at Td;cases Td)⟩ λy h=>(by cases h;exact⟨Td,Wz⟩)
inductive spZC(K:Ad)(CP C Pt:Addr)(vs:List V)(H:Hp)(Q:VK)(_:XK):Prop
 |mk (w n ps:_) (_:vs=[.ref w]) (_:WebAt C H w n ps) (_:Zz n ps) (_:WY H Pt) (_:(∃U,Zf n ps U)) (_:∀x F inc ld fu H',PartOk n ps [] [] ld F inc fu->(ld=none↔WO n ps [] [] F=[])->(∀y,ld=some y->y∈WO n ps [] [] F/\∀z∈WO n ps [] [] F,y<=z)->PartAt K CP C H' x n ps [] [] F inc ld fu->SameX Pt H H'->WY H' Pt->Q (.ref x) H')
theorem jd:FnScope ["web","opened"] ["web"] (Xt (top 56)):=WC B
theorem z6{Pt:Addr}(T:Txt K mg t)(hB:Qc K mg base t.dZB Pt):Xf P w base Xo T.qZC 10 (spZC K t.A_Part t.A_Web Pt):=by
 refine T.qZC.okI ["web","opened"] B λXC A outer s H vs Q E hr h=>?_
 .obtain⟨w,n,ps,rfl,hW,hG,hT,⟨U0,Fw⟩,q⟩:=h;refine⟨_,(XQ (Zg (i:=1) jd.nd Z (Or.inl Z)<|XA (Ao T) hr T.qZA Zs<|XY (pv 0)<|XY (XA (Qx T) hr T.qZg Zs<|XY (pv 0)<|XY (WN XW) XW)<|XY (XA (HG T) hr T.qZt Zs<|XY (pv 0)<|XY (WN XW)<|XY (WN XW) XW) XW)
   (XN<|Zi<|Pr T.k_Part (Hw T hB) (hr.mono uB) Z T.c_Part T.bZB .nil Zs<|XY (pv 0)<|XY (WN XW)<|XY (WN XW)<|XY (bB Z uG T.n_min<|pv 1) XW)),?_⟩
  have LV:With n ps [] [] U0:=⟨Fw,λz h=>(by cases h),λz h=>(by cases h)⟩;refine⟨_,Z,_,Z,Yj _,λe1 KC=>?_⟩;have s1:=XZ (o:=.tup []) KC
  refine⟨w,e1,n,ps,[],Z,hW.same s1,hG,SqT.of XS,λz h=>(by cases h),λm H2 s2 Ts Wz=>?_⟩;have Wv:=s1.trans s2
  refine⟨_,Z,Yj _,λe2 Ph=>⟨Yj _,λe3 vW=>?_⟩⟩;have s3:=XZ (o:=.tup []) Ph
  have s4:=XZ (o:=.tup []) vW;have z5:=Wv.trans (s3.trans s4)
  refine⟨w,e2,e3,n,ps,[],[],Z,hW.same z5,hG,SqT.of<|s4 _ _ XS,SqT.of XS,.nil,λz h=>(by cases h),λz h=>(by cases h),λH5 s5 h=>absurd LV<|h U0,λl F H5 s5 hl hF Vn=>?_⟩;have vV:=z5.trans s5
  have wc:=((s3.trans s4).trans s5) _ _ Wz;have PV:(Xs n.toNat<|XR ps []).length=n.toNat:=ZD _ _
  refine⟨w,m,l,n,ps,Xs n.toNat<|XR ps [],F,Z,hW.same vV,hG,wc,PV,SqT.of hl,λpA H6 s6 hp0 jb=>?_⟩;have jb:H6 pA=some (.lst<|IL<|WO n ps [] [] F):=jb
  refine nm ?_;have Fp:=vV.trans s6
  have Pk:∀z∈WO n ps [] [] F,0<=z/\z<(ps.length:Int):=λz hz=>bx hz;refine⟨_,Z,Yj _,λf1 wm=>⟨Yj _,λf2 Me=>?_⟩⟩;have s7:=XZ (o:=.tup []) wm
  have s8:=XZ (o:=.tup []) Me;have Hs:(upd (upd H6 f1<|.tup []) f2<|.tup []) f1=some (.tup []):=s8 _ _ XS
  have Hr:(upd (upd H6 f1<|.tup []) f2<|.tup []) f2=some (.tup []):=XS;have vU:=Fp.trans (s7.trans s8)
  have hp8:=(s7.trans s8) _ _ jb;generalize upd (upd H6 f1<|.tup []) f2 (.tup [])=H8 at *;have main:∀ld:Option Int,(ld=none↔WO n ps [] [] F=[])->(∀y,ld=some y->y∈WO n ps [] [] F/\∀z∈WO n ps [] [] F,y<=z)->∀x dx,H8 x=none->H8 dx=none->dx≠x->sp_Part_init K t.A_Part t.A_Web Pt [.ref x,.ref w,.ref f1,.ref f2,WZ ld] (upd (upd H8 dx<|.own x) x<|.ins t.A_Part dx []) (λv H2=>v=.non/\Q (.ref x) H2) E0:=by
   intro ld hn hs x dx nx Nl Mb;have s9:Same H8 (upd (upd H8 dx<|.own x) x<|.ins t.A_Part dx []):=Zq (XZ Nl) (by rwa[Zb (XI Mb)])
   have s19:=vU.trans s9;refine⟨x,dx,w,f1,f2,n,ps,[],[],ld,Z,XS,hW.same s19,hG,hT.same s19,SqT.of<|s9 _ _ Hs,SqT.of<|s9 _ _ Hr,.nil,λz h=>(by cases h),λz h=>(by cases h),Yj _,⟨U0,LV⟩,λy hy=>Pk y (hs y hy).1,λe F' Sf SS=>?_,λF' inc fu l' i' H' Sf SS Vb h1 h2 UA Rc QO keep Od=>⟨Z,?_⟩⟩
   .have eF:F'=F:=Tg (Vn F' Sf) (SS F hF);rw[eF];exact hn.mp e
   .have eF:F'=F:=Tg (Vn F' Sf) (SS F hF);subst eF;have sx:SameX Pt H8 H':=λb o hb e=>keep b o (Za e nx) hb (s9 _ _ e)
    have Vk:WY H8 Pt:=hT.same vU;refine q x F' inc ld fu H' ⟨Sf,SS,Vb,h1,h2⟩ hn hs ⟨dx,w,f1,f2,l',i',UA,(hW.same vU).samex Vk sx,SqT.of<|sx _ _ (Vk.ne Hs S) Hs,SqT.of<|sx _ _ (Vk.ne Hr S) Hr,Rc,QO⟩ ((SameX.same vU).trans sx) Od
  refine⟨_,Z,pA,WO n ps [] [] F,Z,SqL.of hp8,λe=>?_,λmn h1 h2=>?_⟩
  .exact main none ⟨λ_=>e,λ_=>rfl⟩ λy h=>by cases h
  .exact main (some mn) ⟨λh=>(by cases h),λh=>(by rw[h]at h1;cases h1)⟩ λy h=>(by cases h;exact⟨h1,h2⟩)
inductive spZD(K:Ad)(CP C Pt:Addr)(vs:List V)(H:Hp)(Q:VK)(_:XK):Prop
 |mk (x n ps I O F inc z y:_) (_:vs=[.ref x]) (_:PartAt K CP C H x n ps I O F inc (some z) (some y)) (_:Zz n ps) (_:WY H Pt) (_:(I).Nodup) (_:(∀v∈I,0<=v/\v<(ps.length:Int))) (_:(∀v∈I,v∉O++[z])) (_:(O++[z]).length<=30) (_:(∃U,With n ps (I) (O++[z]) U)) (_:0<=y) (_:y<(ps.length:Int)) (_:∀x' F' Wo fu H',PartOk n ps (I) (O++[z]) (some y) F' Wo fu->PartAt K CP C H' x' n ps (I) (O++[z]) F' Wo (some y) fu->SameX Pt H H'->WY H' Pt->Q (.ref x') H')
theorem z4{Pt:Addr}(T:Txt K mg t)(hB:Qc K mg base t.dZB Pt):Xf P w base Xo T.qZD 10 (spZD K t.A_Part t.A_Web Pt):=by
 refine T.qZD.okI ["part"] B λXC A outer s H vs Q E hr h=>?_
 .obtain⟨x,n,ps,I,O,F,inc,z,y,rfl,⟨dx,w,a,b,l,i,hx,hW,hA,Ru,hl,hi⟩,hG,hT,hIn,Xm,VZ,Rt,hex,y0,y1,q⟩:=h;refine⟨_,(XN<|Zi<|Pr T.k_Part (Hw T hB) (hr.mono uB) Z T.c_Part T.bZB .nil Zs<|XY (Zp K (pv 0) Z)<|XY (Zp K (pv 0) Z)<|XY (Zr (OX K) (Zp K (pv 0) Z)<|WN<|XY (Zp K (pv 0) Z) XW)<|XY (Zp K (pv 0) Z) XW),?_⟩;have ja:I.length<=30:=by
   have:=IC (m:=Wi ps.length) hIn λv hv=>Xq.mpr (Xm v hv)
   have e:=hG.2.2.1;rw[ZI]at this
   try simp only[Xu,Yu]at this
   lia
  have Sb:O.length<=30:=by
   have:=Rt
   try simp only[Xu,Yu]at this
   lia
  refine⟨_,Z,x,_,dx,_,.ref w,Z,hx,T.cl_Part,T.n_Part_web,Z,_,Z,x,_,dx,_,.ref a,Z,hx,T.cl_Part,T.n_Part_kept,Z,_,Z,x,_,dx,_,.ref b,Z,hx,T.cl_Part,T.n_Part_shut,Z,_,Z,x,_,dx,_,.int z,Z,hx,T.cl_Part,T.n_Part_lead,Z,(by show 1<=sizeLine;decide),λp hp=>?_⟩;have s1:=XZ (o:=.tup<|IL [z]) hp
  refine Bu (l:=O) (m:=[z]) (SqK.same (k:=true) s1 Ru) (SqT.of XS) (by rw[Yu];lia) λr1 H2 s2 Wj=>?_;have Wv:=s1.trans s2
  refine⟨_,Z,x,_,dx,_,.int y,Z,Wv _ _ hx,T.cl_Part,T.n_Part_further,Z,?_⟩;intro x' LU nx Nl Mb;have s9:Same H2 (upd (upd H2 LU<|.own x') x'<|.ins t.A_Part LU []):=Zq (XZ Nl) (by rwa[Zb (XI Mb)])
  have WV:WY H2 Pt:=hT.same Wv;refine⟨x',LU,w,a,r1,n,ps,I,O++[z],some y,Z,XS,hW.same<|Wv.trans s9,hG,WV.same s9,SqK.same (k:=true) (Wv.trans s9) hA,SqK.same (k:=true) s9 Wj,hIn,Xm,VZ,Rt,hex,λv e=>(by cases e;exact⟨y0,y1⟩),λe=>(by cases e),λF' Wo fu l' i' H' Sf SS Vb h1 h2 UA Rc QO keep Od=>⟨Z,?_⟩⟩;have sx:SameX Pt H2 H':=λb o hb e=>keep b o (Za e nx) hb (s9 _ _ e)
  exact q x' F' Wo fu H' ⟨Sf,SS,Vb,h1,h2⟩ ⟨LU,w,a,r1,l',i',UA,(hW.same Wv).samex WV sx,SqK.samex (kd:=true) (SqK.same (k:=true) Wv hA) WV sx,SqK.samex (kd:=true) (Wj) WV sx,Rc,QO⟩ ((SameX.same Wv).trans sx) Od
inductive spZE(K:Ad)(CP C Pt:Addr)(vs:List V)(H:Hp)(Q:VK)(_:XK):Prop
 |mk (x n ps I O F inc z y:_) (_:vs=[.ref x]) (_:PartAt K CP C H x n ps I O F inc (some z) (some y)) (_:Zz n ps) (_:WY H Pt) (_:(I++[z]).Nodup) (_:(∀v∈I++[z],0<=v/\v<(ps.length:Int))) (_:(∀v∈I++[z],v∉O)) (_:(O).length<=30) (_:(∃U,With n ps (I++[z]) (O) U)) (_:0<=y) (_:y<(ps.length:Int)) (_:∀x' F' Wo fu H',PartOk n ps (I++[z]) (O) (some y) F' Wo fu->PartAt K CP C H' x' n ps (I++[z]) (O) F' Wo (some y) fu->SameX Pt H H'->WY H' Pt->Q (.ref x') H')
theorem z3{Pt:Addr}(T:Txt K mg t)(hB:Qc K mg base t.dZB Pt):Xf P w base Xo T.qZE 10 (spZE K t.A_Part t.A_Web Pt):=by
 refine T.qZE.okI ["part"] B λXC A outer s H vs Q E hr h=>?_
 .obtain⟨x,n,ps,I,O,F,inc,z,y,rfl,⟨dx,w,a,b,l,i,hx,hW,hA,Ru,hl,hi⟩,hG,hT,hIn,Xm,VZ,Rt,hex,y0,y1,q⟩:=h;refine⟨_,(XN<|Zi<|Pr T.k_Part (Hw T hB) (hr.mono uB) Z T.c_Part T.bZB .nil Zs<|XY (Zp K (pv 0) Z)<|XY (Zr (OX K) (Zp K (pv 0) Z)<|WN<|XY (Zp K (pv 0) Z) XW)<|XY (Zp K (pv 0) Z)<|XY (Zp K (pv 0) Z) XW),?_⟩;have ja:I.length<=30:=by
   have:=IC (m:=Wi ps.length) hIn λv hv=>Xq.mpr (Xm v hv)
   have e:=hG.2.2.1;rw[ZI]at this
   try simp only[Xu,Yu]at this
   lia
  have Sb:O.length<=30:=by
   have:=Rt
   try simp only[Xu,Yu]at this
   lia
  refine⟨_,Z,x,_,dx,_,.ref w,Z,hx,T.cl_Part,T.n_Part_web,Z,_,Z,x,_,dx,_,.ref a,Z,hx,T.cl_Part,T.n_Part_kept,Z,_,Z,x,_,dx,_,.int z,Z,hx,T.cl_Part,T.n_Part_lead,Z,(by show 1<=sizeLine;decide),λp hp=>?_⟩;have s1:=XZ (o:=.tup<|IL [z]) hp
  refine Bu (l:=I) (m:=[z]) (SqK.same (k:=true) s1 hA) (SqT.of XS) (by rw[Yu];lia) λr1 H2 s2 Wj=>?_;have Wv:=s1.trans s2
  refine⟨_,Z,x,_,dx,_,.ref b,Z,Wv _ _ hx,T.cl_Part,T.n_Part_shut,Z,_,Z,x,_,dx,_,.int y,Z,Wv _ _ hx,T.cl_Part,T.n_Part_further,Z,?_⟩;intro x' LU nx Nl Mb;have s9:Same H2 (upd (upd H2 LU<|.own x') x'<|.ins t.A_Part LU []):=Zq (XZ Nl) (by rwa[Zb (XI Mb)])
  have WV:WY H2 Pt:=hT.same Wv;refine⟨x',LU,w,r1,b,n,ps,I++[z],O,some y,Z,XS,hW.same<|Wv.trans s9,hG,WV.same s9,SqK.same (k:=true) s9 Wj,SqK.same (k:=true) (Wv.trans s9) Ru,hIn,Xm,VZ,Rt,hex,λv e=>(by cases e;exact⟨y0,y1⟩),λe=>(by cases e),λF' Wo fu l' i' H' Sf SS Vb h1 h2 UA Rc QO keep Od=>⟨Z,?_⟩⟩;have sx:SameX Pt H2 H':=λb o hb e=>keep b o (Za e nx) hb (s9 _ _ e)
  exact q x' F' Wo fu H' ⟨Sf,SS,Vb,h1,h2⟩ ⟨LU,w,r1,b,l',i',UA,(hW.same Wv).samex WV sx,SqK.samex (kd:=true) (Wj) WV sx,SqK.samex (kd:=true) (SqK.same (k:=true) Wv Ru) WV sx,Rc,QO⟩ ((SameX.same Wv).trans sx) Od
inductive spZF(K:Ad)(CP C:Addr)(vs:List V)(H:Hp)(Q:VK)(_:XK):Prop
 |mk (x n ps I O F inc ld fu:_) (_:vs=[.ref x]) (_:PartAt K CP C H x n ps I O F inc ld fu) (_:Zz n ps) (_:I.Nodup) (_:(∀z∈I,0<=z/\z<(ps.length:Int))) (_:O.length<=30) (_:(∀z∈I,z∉O)) (_:∀c H',PC n ps I O c->Same H H'->Q (.int c) H')
theorem zZ(T:Txt K mg t):Xf P w base Xo T.qZF 8 (spZF K t.A_Part t.A_Web):=by
 refine T.qZF.okI ["part"] B λXC A outer s H vs Q E hr h=>?_
 .obtain⟨x,n,ps,I,O,F,inc,ld,fu,rfl,⟨dx,w,a,b,l,i,hx,hW,hA,Ru,hl,hi⟩,hG,hI,Xm,hO,VZ,q⟩:=h;refine⟨_,(XN<|Zi<|XA (Md T) hr T.qZm Zs<|XY (Zp K (pv 0) Z)<|XY (Zp K (pv 0) Z)<|XY (Zp K (pv 0) Z) XW),?_⟩;refine⟨_,Z,x,_,dx,_,.ref w,Z,hx,T.cl_Part,T.n_Part_web,Z,_,Z,x,_,dx,_,.ref a,Z,hx,T.cl_Part,T.n_Part_kept,Z,_,Z,x,_,dx,_,.ref b,Z,hx,T.cl_Part,T.n_Part_shut,Z,?_⟩;exact⟨w,a,b,n,ps,I,O,Z,hW,hG,hA,Ru,hI,Xm,hO,VZ,q⟩
theorem i9{n:Int}{ps:Aa}{I F ms:Ac}{z:Int}(hF:Zf n ps F)(hz:z∉F)(hp:ms.Perm (Ti n ps F z F++[z]))(hs:ms.Pairwise (·<=·)):(ms.filter λt=>decide (t≠z/\t∉I))=WD n ps I F z:=by
 refine xG ((hp.filter _).trans ?_) (hs.filter _) ?_
 .rw[Qs,vE S,vc,YI];refine List.Perm.of_eq (LH λt ht=>?_)
  have:t≠z:=λe=>hz (e▸(VC.mp ht).1)
  simp[this]
 .exact((XX.mp hF.1).2.filter _).filter _ |>.imp λh=>J
inductive spZG(K:Ad)(CP C:Addr)(vs:List V)(H:Hp)(Q:VK)(_:XK):Prop
 |mk (x n ps I O F inc ld fu z:_) (_:vs=[.ref x,.int z]) (_:PartAt K CP C H x n ps I O F inc ld fu) (_:Zz n ps) (_:Zf n ps F) (_:z∉F) (_:0<=z) (_:z<(ps.length:Int)) (_:∀r xs H',Same H H'->H r=none->H' r=some (.lst xs)->Bears (Wy H') xs ((WD n ps I F z).map λo=>xchT F o z)->Q (.ref r) H')
theorem i8:FnScope ["part","into","leaving"] ["part","into"] (Xt (top 60)):=WC B
theorem i7(T:Txt K mg t):Xf P w base Xo T.qZG 9 (spZG K t.A_Part t.A_Web):=by
 refine T.qZG.okI ["part","into","leaving"] B λXC A outer s H vs Q E hr h=>?_
 .obtain⟨x,n,ps,I,O,F,inc,ld,fu,z,rfl,⟨dx,w,a,b,l,i,hx,hW,hA,Ru,hl,hi⟩,hG,hF,hz,z0,z1,q⟩:=h;refine⟨_,(XQ (Uz (i:=2) Z i8.nd Z Z (sc0:=Xt<|top 60) (N0:=["part","into","leaving"]) (N':=["tie","into","part"]) (o:=1) (fr:=[1,0]) ⟨Z,B,B,B,Z,B⟩ (Gi K<|XA (jy T) hr T.qZs Zs<|XY (Zp K (pv 0) Z)<|XY (Zp K (pv 0) Z)<|XY (pv 1) XW) (Zt uB) (λ_ _ _ _=>(Ze (i:=0) (show List.Nodup (["tie","into","part"]:List Str) by decide +kernel) Z<|Or.inl Z)) (λ_ _ _ _=>(Qm<|PW.pt<|Ew (Zh Ub (pv 0) (pv 1)<|Zo _)<|Ex<|Zh (Gk K) (pv 0) (Zp K (pv 2) Z) Z)) λ_ _ _ _=>(pv 0))
   (XN<|Zi<|WG Z (sc0:=Xt<|top 60) (N0:=["part","into","leaving"]) (N':=["out","part","into"]) (o:=1) (fr:=[0,1]) ⟨Z,B,B,B,Z,B⟩ (ZQ K<|pv 2) (Zt uB) (λ_ _ _ _=>(Ze (i:=0) (show List.Nodup (["out","part","into"]:List Str) by decide +kernel) Z<|Or.inl Z)) (λ_ _ _ _=>ZR) λ_ _ _ _=>(Zj (ZF K) uG T.n_tuple Boot.«tuple»<|XY (Zd (ZT4 K) uG T.n_sorted Boot.«sorted»<|XY (Zr (OX K) (XA (AO T) hr T.qZb Zs<|XY (Zp K (pv 1) Z)<|XY (pv 0) XW)<|WN<|XY (pv 2) XW) XW) XW))),?_⟩
  have big:(30:Int)<10^70:=uB;have g3:=hG.2.2.1
  refine⟨_,Z,x,_,dx,_,.ref w,Z,hx,T.cl_Part,T.n_Part_web,Z,_,Z,x,_,dx,_,.ref l,Z,hx,T.cl_Part,T.n_Part_least,Z,_,Z,?_⟩;refine⟨w,l,n,ps,true,F,z,Z,hW,hG,SqT.of hl,uD,J,λ_ _ _ _ ms Td Wz rA H1 s1 Vu Ov=>?_,λ_ h=>absurd h λh=>h.elim hz λh=>h ⟨z0,z1⟩,λh=>absurd hF h⟩;have hm30:ms.length<=40:=by
   rw[Td.length_eq,Xu,Yu]
   have:=Gb n ps F z F
   have:=hF.1.len
   lia
  refine⟨rA,Z,⟨_,SqT.of Ov⟩,Ds (K:=K) (a:=rA) (xs:=IL ms) (λj ws H2=>H2=H1/\j<=ms.length/\ws=IL ((ms.take j).filter λt=>decide<|t≠z/\t∉I)) ⟨Z,Yj _,Z⟩ (Zl<|by rw[XD];lia)
   (λj ws H2 hj h=>by obtain⟨e,Qg,ew⟩:=h;exact⟨e▸SqT.of Ov,by rw[ew,XD];exact Yv (YF ..)<|by rw[Yn];lia⟩) ?_ ?_⟩
  .rintro j v ws H2 hj ⟨rfl,MG,rfl⟩ uz Xk;obtain⟨y,rfl,hy⟩:=WQ hj;have VJ:j<ms.length:=(Xr.mp hy).1
   refine nm ?_;refine⟨_,Z,_,Z,Z,_,Z,?_⟩;rw[Zy];refine WK (λhe=>?_) (λhe=>?_)
   .refine Xk _ _ ⟨Z,VJ,?_⟩;rw[TV hy,if_neg (by simp[he]),YI]
   refine⟨_,Z,_,Z,x,_,dx,_,.ref a,Z,s1 _ _ hx,T.cl_Part,T.n_Part_kept,Z,a,_,Z,.inr<|SqK.same (k:=true) s1 hA,Z,ZT _,_,Z,?_⟩;rw[Pb];refine WK (λhc=>?_) (λhc=>?_)
   .refine Xk _ _ ⟨Z,VJ,?_⟩;rw[TV hy,if_neg (by simp[hc]),YI]
   .refine⟨_,Z,Xk _ _ ⟨Z,VJ,?_⟩⟩;rw[TV hy,if_pos<|Yp ⟨he,hc⟩,ZE]
  rintro ws H2 ⟨rfl,_,rfl⟩ lA i6;rw[XD,YD,i9 hF hz Td Wz];have u1:=XZ (o:=.lst<|IL<|WD n ps I F z) i6
  have kL:(upd H2 lA<|.lst<|IL<|WD n ps I F z) lA=some (.lst<|IL<|WD n ps I F z):=XS;refine nm ?_;dsimp only[List.set];have s2:=s1.trans u1
  change Es _ _ _ (upd H2 lA<|.lst<|IL<|WD n ps I F z);generalize upd H2 lA (.lst<|IL<|WD n ps I F z)=H3 at *;have lvl:(WD n ps I F z).length<=30:=Yv (YF ..) (by have:=Gb n ps F z F;have:=hF.1.len;lia)
  have Hq:F.length<=30:=by have:=hF.1.len;lia
  refine⟨_,Z,lA,Z,⟨_,SqL.of kL⟩,QR (K:=K) (a:=lA) (xs:=IL<|WD n ps I F z) (λj ys H4=>Same H3 H4/\j<=(WD n ps I F z).length/\Bears (Wy H4) ys (((WD n ps I F z).take j).map λo=>xchT F o z)) ⟨Same.refl _,Yj _,⟨Z,λi l e=>by simp at e⟩⟩ (Zl<|by rw[XD];lia)
   (λj ys H4 hj h=>by obtain⟨e,Qg,ey⟩:=h;exact⟨SqL.of<|e _ _ kL,by rw[ey.1,Yb,Yn];lia⟩) ?_ ?_⟩
  .rintro j v ys H4 hj ⟨s4,MG,hY⟩ uz Xk;obtain⟨o,rfl,ho⟩:=WQ hj;have VJ:j<(WD n ps I F z).length:=(Xr.mp ho).1
   have Kg:=s2.trans s4;refine nm ?_;refine⟨_,Z,x,_,dx,_,.ref l,Z,Kg _ _ hx,T.cl_Part,T.n_Part_least,Z,_,Z,l,true,F,o,Z,SqT.of<|Kg _ _ hl,J,λr1 H5 s5 hr10 Wj=>?_⟩;have wl:=KW F o
   refine⟨_,Z,(by show 1<=sizeLine;decide),λp2 VO=>?_⟩;have s6:=XZ (o:=.tup<|IL [z]) VO
   refine Bu (l:=wo F o) (m:=[z]) (SqT.of<|s6 _ _ Wj) (SqT.of XS) (by rw[Yu];lia) λr3 H7 s7 TM=>?_;refine⟨r3,wo F o++[z],Z,TM,by rw[Xu,Yu];lia,λns AJ NJ p4 Np=>?_⟩;have en:ns=xchT F o z:=xG (AJ.trans (Ku F o z).symm) NJ (FK F o z)
   subst en;have s8:=XZ (o:=.lst<|IL<|xchT F o z) Np
   refine⟨p4,_,Z,.inl ⟨SqL.of XS,λp5 wA=>?_⟩⟩;have s9:=XZ (o:=.tup<|IL<|xchT F o z) wA
   have sA:=(s5.trans s6).trans (s7.trans<|s8.trans s9);refine Xk _ _ ⟨s4.trans sA,VJ,?_⟩;rw[YJ,ho,YG];exact(hY.imp λ_ _ h=>by obtain⟨q,e,hq⟩:=h;exact⟨q,e,sA _ _ hq⟩).snoc ⟨p5,Z,XS⟩
  .rintro ys H4 ⟨s4,_,hY⟩ d hd;rw[XD,YD]at hY;have s5:=XZ (o:=.lst ys) hd
   exact q d ys _ (s2.trans<|s4.trans s5) ((s2.trans s4).free hd) XS (hY.imp λ_ _ h=>by obtain⟨q,e,hq⟩:=h;exact⟨q,e,s5 _ _ hq⟩)
theorem ZO5{α:Type}{R:V->α->Prop}{xs ys:List V}{l m:List α}(h1:Bears R xs l)(h2:Bears R ys m):Bears R (xs++ys) (l++m):=by
 refine⟨by rw[Xu,Xu,h1.1,h2.1],λi a e=>?_⟩;by_cases c:i<l.length
 .rw[Ys c]at e;obtain⟨v,hv,r⟩:=h1.2 i a e;exact⟨v,by rw[Ys (by rwa[h1.1])];exact hv,r⟩
 .rw[Yo J]at e;obtain⟨v,hv,r⟩:=h2.2 _ a e;exact⟨v,by rw[Yo (by rw[h1.1];lia),h1.1];exact hv,r⟩
theorem ZN5{α:Type}{R:V->α->Prop}{xs:List V}{l:List α}(h:Bears R xs l):Bears R xs.reverse l.reverse:=by
 refine⟨by rw[YS,YS,h.1],λi a e=>?_⟩;have hi:i<l.length:=by have:=(Xr.mp e).1;rwa[YS]at this
 rw[JZ hi]at e;obtain⟨v,hv,r⟩:=h.2 _ a e;exact⟨v,by rw[JZ (by rwa[h.1]),h.1];exact hv,r⟩
inductive spZH(K:Ad)(CP C:Addr)(vs:List V)(H:Hp)(Q:VK)(_:XK):Prop
 |mk (x n ps I O F inc ld fu:_) (_:vs=[.ref x]) (_:PartAt K CP C H x n ps I O F inc ld fu) (_:Zz n ps) (_:Zf n ps F) (_:inc.length<=30) (_:(∀z∈inc,z∉F/\0<=z/\z<(ps.length:Int))) (_:∀r xs H',Same H H'->H r=none->H' r=some (.lst xs)->Bears (Wy H') xs (Bs n ps I F inc)->Q (.ref r) H')
theorem Oc:FnScope ["part","row","ascending","into","trees"] ["part"] (Xt (top 61)):=WC B
theorem zY(T:Txt K mg t):Xf P w base Xo T.qZH 10 (spZH K t.A_Part t.A_Web):=by
 refine T.qZH.okI ["part","row","ascending","into","trees"] B λXC A outer s H vs Q E hr h=>?_
 .obtain⟨x,n,ps,I,O,F,inc,ld,fu,rfl,RU,hG,hF,VB,SW,q⟩:=h;refine⟨_,(XQ (Zg (i:=1) Oc.nd Z (Or.inl Z)<|ZZ<|XY (Zp K (pv 0) Z) XW)
   (XQ (Zg (i:=2) Oc.nd Z (Or.inl Z)<|Sn SH (Zr ZL (Zd (Zk K) uG T.n_len Boot.«len»<|XY (Zp K (pv 0) Z) XW) XO) XO<|Zo _)
   (XQ (Va YQ Z (ZQ K<|Zp K (pv 0) Z) (Ze (i:=3) Oc.nd Z<|Or.inl Z)
   (XQ (Zg (i:=4) Oc.nd Z (Or.inl Z)<|XA (i7 T) hr T.qZG Zs<|XY (pv 0)<|XY (pv 3) XW)
   (XQ (ZS<|UJ K YL gy gz fg (pv 1)<|XY (yr (PD<|pv 2) (pv 4)<|Dg K Z Z T.n_list Z T.n_reversed<|XY (pv 4) XW) XW)
   (XN<|Zg (i:=2) Oc.nd Z (Or.inl Z)<|uc<|pv 2))))
   (XN<|Zi<|pv 1)))),?_⟩
  obtain⟨dx,w,a,b,l,i,hx,hW,hA,Ru,hl,hi⟩:=id RU;refine⟨_,Z,x,_,dx,_,.ref l,Z,hx,T.cl_Part,T.n_Part_least,Z,(by show 1<=sizeLine;decide),λr hr=>?_⟩;have s1:=XZ (o:=.lst [.ref l]) hr
  refine nm ?_;refine⟨_,Z,x,_,dx,_,.ref i,Z,s1 _ _ hx,T.cl_Part,T.n_Part_incoming,Z,i,_,Z,.inl<|SqL.of<|s1 _ _ hi,_,_,Z,Z,(by show(0:Int)<2;decide),Z,?_⟩;refine nm ?_;have ea:decide (V.int ((IL inc).length%2:Int)=V.int 1)=(inc.length%2 == 1):=by rw[Zy,XD,Qq,YV,VE];omega
  change Vc _ _ _ [some (.ref x),some<|.ref r,some<|.bl<|decide<|V.int ((IL inc).length%2:Int)=V.int 1,none,none] (upd H r<|.lst [.ref l]);rw[ea];generalize Sd:(inc.length%2 == 1)=asc at *;have kr:(upd H r<|.lst [.ref l]) r=some (.lst [.ref l]):=XS
  generalize upd H r (.lst [.ref l])=H1 at *;have o9:=s1 _ _ hi
  have fresh:∀b o,H b=some o->b≠r:=λb o e=>Za e hr;refine⟨_,rfl,x,_,dx,_,.ref i,rfl,s1 _ _ hx,T.cl_Part,T.n_Part_incoming,rfl,i,rfl,⟨_,SqL.of o9⟩,ym (K:=K) (a:=i) (xs:=IL inc) (λj σ H2=>∃xs v3 v4,σ=[some (.ref x),some<|.ref r,some<|.bl<|asc != (j%2 == 1),v3,v4]/\Same H H2/\H2 r=some (.lst xs)/\Bears (Wy H2) xs (F::Vm n ps I F (inc.take j) asc)) ⟨[.ref l],none,none,by cases asc<;>rfl,s1,kr,⟨rfl,λj m e=>by
   match j,e with
   |0,e=>exact⟨_,Z,l,Z,by rw[<-Ye e];exact s1 _ _ hl⟩⟩⟩ (λj σ H2 _ h=>by obtain⟨_,_,_,_,e,_⟩:=h;exact SqL.of<|e _ _ hi) ?_ ?_⟩
  rotate_left
  .rintro σ H2 ⟨xs,v3,v4,rfl,s2,Wa,hX⟩;rw[XD,YD]at hX;refine Wl ?_;refine⟨_,Z,?_⟩;rw[<-Sd]at hX;exact q r xs H2 s2 hr Wa hX
  rintro j v σ H2 hj ⟨xs,v3,v4,rfl,s2,Wa,hX⟩;obtain⟨z,rfl,hz⟩:=WQ hj;obtain⟨zF,z0,z1⟩:=SW z (Xi hz);have qx:j<inc.length:=(Xr.mp hz).1
  refine nm ?_;dsimp only[List.set];refine⟨_,Z,_,Z,x,n,ps,I,O,F,inc,ld,fu,z,Z,⟨dx,w,a,b,l,i,s2 _ _ hx,hW.same s2,SqK.same (k:=true) s2 hA,SqK.same (k:=true) s2 Ru,s2 _ _ hl,s2 _ _ hi⟩,hG,hF,zF,z0,z1,λtA ys H3 s3 ht0 Rv hY=>?_⟩;refine nm ?_;dsimp only[List.set];have TM:=s3 _ _ Wa
  have zX:F.length<=30:=by have:=hF.1.len;have:=hG.2.2.1;lia
  have xl:xs.length<=1000:=by
   rw[hX.1,Yt];have h1:=bq n ps I F (inc.take j) asc
   have h2:(inc.take j).length*F.length<=30*30:=JS (by rw[Yn];grind) zX;lia
  have yl:ys.length<=30:=by rw[hY.1,Yb];exact Yv (YF ..) (Yv (Gb n ps F z F) zX)
  have i5:Vm n ps I F (inc.take<|j+1) asc=Vm n ps I F (inc.take j) asc++VG n ps I F (asc != (j%2 == 1)) z:=by
   have e:inc.take (j+1)=inc.take j++[z]:=by rw[YJ,hz];rfl
   have el:(inc.take j).length=j:=by rw[Yn];lia
   rw[e,kZ,el]
  have flip:(!(asc != (j%2 == 1)))=(asc != ((j+1)%2 == 1)):=by rcases(by grind:j%2=0/\(j+1)%2=1\/j%2=1/\(j+1)%2=0) with ⟨a,b⟩|⟨a,b⟩<;>rw[a,b]<;>cases asc<;>rfl
  have fin:∀zs H4,Same H3 H4->zs.length=ys.length->Bears (Wy H4) zs (VG n ps I F (asc != (j%2 == 1)) z)->Same H (upd H4 r<|.lst<|xs++zs)/\Bears (Wy<|upd H4 r<|.lst<|xs++zs) (xs++zs) (F::Vm n ps I F (inc.take<|j+1) asc):=λzs H4 s4 xt hZ=>by
   have Qb:=s4 _ _ TM;refine⟨Zu hr<|(s2.trans s3).trans s4,?_⟩;rw[i5];have hX4:Bears (Wy H4) xs (F::Vm n ps I F (inc.take j) asc):=hX.imp λ_ _ h=>by obtain⟨c,e,hc⟩:=h;exact⟨c,e,(s3.trans s4) _ _ hc⟩
   exact(ZO5 hX4 hZ).imp λ_ _ h=>by obtain⟨c,e,hc⟩:=h;exact⟨c,e,by rwa[Zb (MW hc Qb S)]⟩
  refine⟨_,Z,.inl ⟨Z,_,SqL.of TM⟩,?_⟩;cases hb:(asc != (j%2 == 1)) with
  |true=>
   rw[hb]at fin flip;refine⟨_,Z,_,Z,?_⟩;refine Wb ?_;refine⟨_,Z,?_⟩;obtain⟨f1,f2⟩:=fin ys H3 (Same.refl _) Z hY;refine⟨r,tA,xs,ys,Z,Z,TM,Rv,TY J,?_⟩;refine⟨_,Z,_,Z,?_⟩;exact⟨xs++ys,_,_,by rw[<-flip];rfl,f1,XS,f2⟩
  |false=>
   rw[hb]at fin flip;refine⟨_,Z,_,Z,?_⟩;refine Vq ?_;refine⟨_,Z,tA,ys,Z,SqL.of Rv,λd hd=>?_⟩;have s4:=XZ (o:=.lst ys.reverse) hd
   obtain⟨f1,f2⟩:=fin ys.reverse _ s4 (YS) (ZN5<|hY.imp λ_ _ h=>by obtain⟨c,e,hc⟩:=h;exact⟨c,e,s4 _ _ hc⟩);refine⟨r,d,xs,ys.reverse,Z,Z,s4 _ _ TM,XS,TY (by rw[YS];lia),?_⟩;refine⟨_,Z,_,Z,?_⟩;exact⟨xs++ys.reverse,_,_,by rw[<-flip];rfl,f1,XS,f2⟩
inductive spZI(K:Ad)(CP C Pt:Addr)(d:Nat)(vs:List V)(H:Hp)(Q:VK)(_:XK):Prop
 |mk (x n ps I O F inc ld fu R size start stop:_) (_:vs=[.ref x,.int size,.int start,.int stop]) (_:PartAt K CP C H x n ps I O F inc ld fu) (_:PartOk n ps I O ld F inc fu) (_:Zz n ps) (_:WY H Pt) (_:RowR n ps d I O ld R) (_:size=R.length) (_:0<=start) (_:stop<=size) (_:stop-start<=100000) (_:∀r xs H',SameX Pt H H'->WY H' Pt->H r=none->H' r=some (.lst xs)->Bears (Wy H') xs ((R.drop start.toNat).take (stop-start).toNat)->Q (.ref r) H')
theorem i4(xs:List V){a b:Nat}(h2:b<=xs.length):Xe xs (some (a:Int)) (some (b:Int))=(xs.drop a).take (b-a):=by
 have e1:HT.Vr xs.length 0 (some (a:Int))=min a xs.length:=rfl;have e2:HT.Vr xs.length xs.length (some (b:Int))=min b xs.length:=rfl
 unfold Xe;rw[e1,e2,EV h2];rcases Nat.le_total a xs.length with c|c
 .rw[EV c]
 .rw[JG c,vA<|XJ _,vA c,yK,yK]
theorem Ze9{α:Type}{R:V->α->Prop}{xs:List V}{l:List α}(h:Bears R xs l)(a b:Nat):Bears R ((xs.drop a).take b) ((l.drop a).take b):=by
 refine⟨by rw[Yn,Yn,Wt,Wt,h.1],λi x e=>?_⟩;rw[GQ]at e;by_cases c:i<b
 .rw[if_pos c,Fd]at e;obtain⟨v,hv,r⟩:=h.2 _ x e;exact⟨v,by rw[GQ,if_pos c,Fd];exact hv,r⟩
 .rw[if_neg c]at e;cases e
theorem i3{α:Type}(A uw:List α){a b:Nat}(h:b<=A.length):((A++uw).drop a).take (b-a)=(A.drop a).take (b-a):=by
 rcases Nat.le_total a A.length with c|c
 .rw[vJ c,vK (by rw[Wt];exact Nat.sub_le_sub_right h a)]
 .rw[Nat.sub_eq_zero_of_le (Yv h c),uV,uV]
theorem ZR7{α:Type}(uw:List α){i k:Nat}(h:i+k<=uw.length):((uw.reverse).drop i).take k=((uw.drop (uw.length-i-k)).take k).reverse:=by rw[List.drop_reverse,List.take_reverse,Yn,EV<|Nat.sub_le _ _,List.drop_take,Nat.sub_sub_self (Nat.le_sub_of_add_le' h)]
theorem iZ{α:Type}(A uw:List α){a b c:Nat}(hc:(a<=A.length/\c=A.length)\/(A.length<=a/\c=a))(iY:c<=b)(hb:b<=A.length+uw.length):((A++uw.reverse).drop a).take (b-a)=A.drop a++((uw.drop (A.length+uw.length-b)).take (b-c)).reverse:=by
 rcases hc with ⟨h,rfl⟩|⟨h,rfl⟩
 .rw[vJ h,List.take_append,YO (by rw[Wt];exact Nat.sub_le_sub_right iY a),Wt,Nat.sub_sub_sub_cancel_right h]
  have:=ZR7 uw (i:=0) (k:=b-A.length) uE
  rw[uU]at this;rw[this,show uw.length-0-(b-A.length)=A.length+uw.length-b by grind]
 .rw[List.drop_append,vA h,Ng,Ng,ZR7 uw uE,show uw.length-(c-A.length)-(b-c)=A.length+uw.length-b by grind]
theorem iX{x y:Int}:∃m,(if x<y then x else y)=m/\m<=x/\m<=y/\(x<y->m=x)/\(¬x<y->m=y):=by
 by_cases c:x<y
 .exact⟨x,if_pos c,Lw _,GC c,λ_=>rfl,λh=>absurd c h⟩
 .exact⟨y,if_neg c,GB.mp c,Lw _,λh=>absurd h c,λ_=>rfl⟩
theorem ZW3{H H2:Hp}{Pt r:Addr}{pos:Pos}{qual:Str}(t:TabH H2 Pt pos qual)(s:SameX Pt H H2)(h:H2 r=none):H r=none:=by
 cases e:H r with
 |none=>rfl
 |some o=>
  have XH:r≠Pt:=λe'=>by obtain⟨p,h1,_⟩:=t;rw[<-e',h]at h1;cases h1
  rw[s _ _ XH e]at h;cases h
theorem LS:FnScope ["part","size","start","stop","first","middle","trees","turned"] ["part","size","start","stop"] (Xt (top 62)):=WC B
theorem iW{Pt:Addr}(T:Txt K mg t)(hB:Qc K mg base t.dZB Pt)(d:Nat):Xf P w base Xo T.qZI (11+d) (spZI K t.A_Part t.A_Web Pt d):=by
 have key:∀d k sp,Xf P w base Xo T.qZI k sp->k<=10+d->(∀e,d=e+1->sp=spZI K t.A_Part t.A_Web Pt e)->Xf P w base Xo T.qZI (11+d) (spZI K t.A_Part t.A_Web Pt d):=by
  intro d k sp ih hk UB;rw[show 11+d=10+d+1 by lia];refine T.qZI.ok ["part","size","start","stop","first","middle","trees","turned"] B (λvs H Q E h=>?_) (λXC A outer s H vs Q E hr h=>?_)
  .obtain⟨x,n,ps,I,O,F,inc,ld,fu,R,size,start,stop,rfl,_⟩:=h;rfl
  .obtain⟨x,n,ps,I,O,F,inc,ld,fu,R,size,start,stop,rfl,RU,Ut,hG,hT,hR,hsz,Gf,Jb,MR,q⟩:=h;refine⟨_,(XQ (Xx (Zh Lk (pv 2) (pv 3)<|Zo _)
   (XN<|Zi<|ZZ XW)
   Zm)
   (XQ (Xx (Zh Ec (Zp K (pv 0) Z) Qp<|Zo _)
   (XN<|Zi<|ZY (Pd K) (QY (zY T) (hr.mono uD) Z T.qZH.mm T.qZH.fn.kp T.qZH.bi .nil Zs<|XY (pv 0) XW) (QX<|pv 2)<|QX<|pv 3)
   Zm)
   (XQ (Zg (i:=4) LS.nd Z (Or.inl Z)<|QY (z4 T hB) (hr.mono uD) Z T.qZD.mm T.qZD.fn.kp T.qZD.bi .nil Zs<|XY (pv 0) XW)
   (XQ (Zg (i:=5) LS.nd Z (Or.inl Z)<|QY (zZ T) (hr.mono uD) Z T.qZF.mm T.qZF.fn.kp T.qZF.bi .nil Zs<|XY (pv 4) XW)
   (XQ (Zg (i:=6) LS.nd Z (Or.inl Z)<|QY ih (hr.mono uD) Z T.qZI.mm T.qZI.fn.kp T.qZI.bi .nil Zs<|XY (pv 4)<|XY (pv 5)<|XY (pv 2)<|XY (Zd (yi Z) uG T.n_min Boot.«min»<|XY (pv 3)<|XY (pv 5) XW) XW)
   (XQ (Xx (Zh MP (pv 3) (pv 5)<|Zo _)
   (XQ (Zg (i:=7) LS.nd Z (Or.inl Z)<|QY ih (hr.mono uD) Z T.qZI.mm T.qZI.fn.kp T.qZI.bi .nil Zs<|XY (QY (z3 T hB) (hr.mono uD) Z T.qZE.mm T.qZE.fn.kp T.qZE.bi .nil Zs<|XY (pv 0) XW)<|XY (Zr SI (pv 1)<|pv 5)<|XY (Zr SI (pv 1)<|pv 3)<|XY (Zr SI (pv 1)<|Zd (DZ Z) uG T.n_max Boot.«max»<|XY (pv 2)<|XY (pv 5) XW) XW)
   (XN<|ZS<|UJ K YL gy gz fg (pv 6)<|XY (Dg K Z Z T.n_list Z T.n_reversed<|XY (pv 7) XW) XW))
   Zm)
   (XN<|Zi<|pv 6))))))),?_⟩
   obtain⟨dx,w0,a,b,l,i,hx,hW,hA,Ru,hl,hi⟩:=id RU;refine⟨_,Z,_,Z,_,_,Z,Z,_,Z,?_⟩;refine Xh (λQe=>?_) (λXn=>?_)
   .refine⟨Yj _,λr hr=>?_⟩;have s1:=XZ (o:=.lst []) hr
    refine q r [] _ (SameX.same s1) (hT.same s1) hr XS ?_;rw[show(stop-start).toNat=0 by lia,uV];exact⟨Z,λi l e=>by simp at e⟩
   refine Wl ?_;obtain⟨a0,rfl⟩:=vD Gf;obtain⟨b0,rfl⟩:=vD (show 0<=stop by lia);have Vw:a0<=b0:=J
   have iV:b0<=R.length:=by rw[hsz]at Jb;exact Int.ofNat_le.mp Jb
   have e0:((b0:Int)-(a0:Int)).toNat=b0-a0:=Int.toNat_sub _ _;rw[YA,e0]at q;subst hsz;refine⟨_,Z,x,_,dx,_,WZ fu,Z,hx,T.cl_Part,T.n_Part_further,Z,Z,_,Z,?_⟩;cases hR with
   |und VY VB iU=>
    obtain⟨rfl,rfl,rfl⟩:=Ut.uniq VY;refine Wb ?_;refine⟨_,Z,x,n,ps,I,O,F,inc,ld,none,Z,RU,hG,Ut.tr.1,VB,iU,λr xs H1 s1 Vu Wj hX=>?_⟩;have Kj:=hX.1
    refine⟨_,Z,_,Z,_,Z,_,Z,r,xs,Z,SqL.of Wj,λq1 hq1=>?_⟩;rw[i4 xs (by rwa[Kj])];have s2:=XZ (o:=.lst<|(xs.drop a0).take (b0-a0)) hq1
    have Wv:=s1.trans s2;refine q q1 _ _ (SameX.same Wv) (hT.same Wv) (s1.free hq1) XS ?_;exact(Ze9 hX _ _).imp λ_ _ h=>by obtain⟨c,e,hc⟩:=h;exact⟨c,e,s2 _ _ hc⟩
   |div VY hIn Xm VZ Rt Ho Hn y0 y1 Hz vT vS=>
    rename_i e F' Wo z y A' uw;obtain⟨rfl,rfl,rfl⟩:=Ut.uniq VY;have iT:=UB e rfl
    subst iT;refine Vq ?_;refine Wl ?_;have TR:=YM.mp hIn
    have Ob:I.Nodup:=TR.1;have Oa:∀v∈I,0<=v/\v<(ps.length:Int):=λv hv=>Xm v (Yd _ hv)
    have NZ:∀v∈I,v∉O++[z]:=λv hv h=>(XE.mp h).elim (VZ v<|Yd _ hv) λh=>TR.2.2 v hv z S (XG.mp h);have Sb:O.length<=30:=by rw[Xu,Yu]at Rt;lia
    rw[Xu,YS]at iV;have Qa:(((A'++uw.reverse).length:Nat):Int)=(A'.length:Int)+uw.length:=by rw[Xu,YS,Int.natCast_add]
    obtain⟨m,em,m1,m2,m3,m4⟩:=iX (x:=(A'.length:Int)) (y:=(b0:Int));refine⟨_,Z,x,n,ps,I,O,F,inc,z,y,Z,RU,hG,hT,Ob,Oa,NZ,Rt,Hn,y0,y1,λx1 F1 Sa Ia H1 Ms OY NY We=>?_⟩;refine nm ?_;refine⟨_,Z,x1,n,ps,I,O++[z],F1,Sa,some y,Ia,Z,OY,hG,Ob,Oa,Rt,NZ,λc H2 hc s2=>?_⟩;have ec:=hc.uniq Hz
    subst ec;refine nm ?_;have Tq:SameX Pt H H2:=NY.trans (SameX.same s2)
    have WV:=We.same s2;refine⟨_,Z,_,Z,_,Z,_,Z,_,Z,_,_,Z,?_⟩;refine⟨x1,n,ps,I,O++[z],F1,Sa,some y,Ia,A',_,_,_,Z,OY.samex We<|SameX.same s2,Ms,hG,WV,vT,Z,Gf,(by rwa[em]),(by rw[em];exact GD (Int.sub_le_sub_right m2 _) MR),λr xs H3 LR Vy Vu TM hX=>?_⟩;refine nm ?_;have Ur:=Tq.trans LR
    have iS:H r=none:=ZW3 WV Tq Vu;rw[YA,em]at hX;refine⟨_,Z,_,Z,_,_,Z,Z,_,Z,?_⟩;refine Xh (λhgt=>?_) λhle=>?_;rotate_left
    .show(_:Prop);refine Wl ?_;refine⟨_,Z,?_⟩;have iR:¬(A'.length:Int)<(b0:Int):=hle
     rw[m4 iR,e0]at hX;rw[i3 A' uw.reverse J]at q;exact q r xs H3 Ur Vy iS TM hX
    have zW:(A'.length:Int)<(b0:Int):=hgt;rw[m3 zW,Int.toNat_sub,YO (by rw[Wt];exact XJ _)]at hX;clear m1 m2 m3 m4 em m;refine⟨_,Z,x,n,ps,I,O,F,inc,z,y,Z,RU.samex hT Ur,hG,Vy,hIn,Xm,VZ,Sb,Ho,y0,y1,λx2 F2 Ox Bj H4 Tt Tw Sx TK=>?_⟩;refine⟨_,Z,_,Z,_,_,Z,Z,_,Z,_,Z,_,_,Z,Z,_,Z,_,Z,_,Z,_,_,Z,_,_,Z,Z,?_⟩;obtain⟨c0,ec,PZ,iY⟩:∃c0:Nat,(if (A'.length:Int)>(a0:Int) then (A'.length:Int) else (a0:Int))=(c0:Int)/\((a0<=A'.length/\c0=A'.length)\/(A'.length<=a0/\c0=a0))/\c0<=b0:=by
     by_cases c:(A'.length:Int)>(a0:Int)
     .exact⟨A'.length,if_pos c,.inl ⟨Nb<|Int.ofNat_lt.mp c,Z⟩,Nb<|Int.ofNat_lt.mp zW⟩
     .exact⟨a0,if_neg c,.inr ⟨Int.ofNat_le.mp<|GB.mp c,Z⟩,Vw⟩
    rw[iZ A' uw PZ iY iV]at q;have hAc:A'.length<=c0:=by rcases PZ with h|h<;>lia
    have hac:a0<=c0:=by rcases PZ with h|h<;>lia
    clear PZ;refine⟨x2,n,ps,I++[z],O,F2,Ox,some y,Bj,uw,_,_,_,Z,Tw,Tt,hG,TK,vS,(by rw[Qa];lia),(by rw[Qa];lia),(by rw[ec,Qa];lia),(by rw[ec,Qa];lia),λr2 ys H5 Hv NX hr20 hr5 hY=>?_⟩;refine nm ?_;have Qb:=Sx _ _ (Vy.ne TM S) TM
    have zV:=Hv _ _ (TK.ne Qb S) Qb;have iQ:=(Ur.trans Sx).trans Hv
    have e2:((A'.length:Int)+uw.length-(b0:Int)).toNat=A'.length+uw.length-b0:=uE;have e3:((A'.length:Int)+uw.length-(c0:Int)-((A'.length:Int)+uw.length-(b0:Int))).toNat=b0-c0:=uE
    rw[ec,Qa,e2,e3]at hY;have Kj:xs.length<=100000:=by rw[hX.1,Wt];lia
    have HY:ys.length<=100000:=by rw[hY.1,Yn];lia
    refine⟨_,Z,.inl ⟨Z,_,SqL.of zV⟩,_,Z,r2,ys,Z,SqL.of hr5,λdA hd=>?_⟩;have s6:=XZ (o:=.lst ys.reverse) hd
    have FF:=s6 _ _ zV;have z1:1000000<=sizeLine:=uB
    refine⟨r,dA,xs,ys.reverse,Z,Z,FF,XS,(by rw[YS];lia),?_⟩;refine⟨_,Z,?_⟩;refine q r (xs++ys.reverse) _ (λb o hb e=>?_) ((NX.same s6).put FF) iS XS ?_
    .rw[Zb (Za e iS)];exact s6 _ _ (iQ _ _ hb e)
    .have f1:Bears (Wy<|upd H5 dA<|.lst ys.reverse) xs (A'.drop a0):=hX.imp λ_ _ h=>by
      obtain⟨c,e,hc⟩:=h;have FA:=Sx _ _ (Vy.ne hc S) hc
      exact⟨c,e,s6 _ _<|Hv _ _ (TK.ne FA S) FA⟩
     have f2:Bears (Wy<|upd H5 dA<|.lst ys.reverse) ys.reverse ((uw.drop<|A'.length+uw.length-b0).take (b0-c0)).reverse:=ZN5 (hY.imp λ_ _ h=>by obtain⟨c,e,hc⟩:=h;exact⟨c,e,s6 _ _ hc⟩)
     exact(ZO5 f1 f2).imp λ_ _ h=>by obtain⟨c,e,hc⟩:=h;exact⟨c,e,by rwa[Zb (MW hc FF S)]⟩
 induction d with
 |zero=>exact key 0 0 _ aZ J λe h=>(by cases h)
 |succ d ih=>exact key (d+1) (11+d) _ ih J λe h=>(by cases h;rfl)
inductive spZJ(vs:List V)(H:Hp)(Q:VK)(_:XK):Prop
 |mk (z:Int) (_:vs=[.int z]) (_:-(10^70)<z) (_:z<10^70) (_:(0<=z->Q .non H)) (_:(z<0->False))
theorem iP(T:Txt K mg t):Xf P w base Xo T.qZJ 1 spZJ:=by
 refine T.qZJ.okI ["number"] B λXC A outer s H vs Q E hr h=>?_
 .obtain⟨z,rfl,z0,z1,q,qe⟩:=h;refine⟨_,(XN (Xx (Zh UC (pv 0) XO<|Zo _)
   (XN ZX)
   Zm)),?_⟩
  refine⟨_,Z,_,_,Z,Z,_,Z,?_⟩;refine Xh (λh=>?_) (λh=>?_)
  .exact qe h
  .exact q J
inductive spZK(K:Ad)(CP C Pt:Addr)(vs:List V)(H:Hp)(Q:VK)(_:XK):Prop
 |mk (w:Addr) (n:Int) (ps:Aa) (num most:Int) (R:Ab) (_:vs=[.ref w,.int num,.int most]) (_:WebAt C H w n ps) (_:Zz n ps) (_:WY H Pt) (_:0<=num) (_:num<10^70) (_:0<=most) (_:most<=100000) (_:((∃U,Zf n ps U)->RowW n ps R)) (_:((∀U,¬Zf n ps U)->R=[])) (_:∀(r:Addr)(xs:List V)(H':Hp),SameX Pt H H'->WY H' Pt->H r=none->H' r=some (.lst xs)->Bears (Wy H') xs ((R.drop num.toNat).take most.toNat)->Q (.ref r) H')
theorem iO:FnScope ["web","number","most","size"] ["web","number","most"] (Xt (top 64)):=WC B
theorem zU{Pt:Addr}(T:Txt K mg t)(hB:Qc K mg base t.dZB Pt):Xf P w base Xo T.qZK 44 (spZK K t.A_Part t.A_Web Pt):=by
 refine T.qZK.okI ["web","number","most","size"] B λXC A outer s H vs Q E hr h=>?_
 .obtain⟨w,n,ps,num,most,R,rfl,hW,hG,hT,n0,n1,m0,m1,hRw,vR,q⟩:=h;refine⟨_,(XQ (ZS<|XA (iP T) hr T.qZJ Zs<|XY (pv 1) XW)
   (XQ (Zg (i:=3) iO.nd Z (Or.inl Z)<|XA (Om T) hr T.qZl Zs<|XY (pv 0) XW)
   (XQ (Xx (Zh Lk (pv 1) (pv 3)<|Zo _)
   (XN<|Zi<|ZZ XW)
   Zm)
   (XN<|Zi<|XA (iW T hB 31) hr T.qZI Zs<|XY (XA (z6 T hB) hr T.qZC Zs<|XY (pv 0) XW)<|XY (pv 3)<|XY (pv 1)<|XY (Zd (yi Z) uG T.n_min Boot.«min»<|XY (Zr UM (pv 1)<|pv 2)<|XY (pv 3) XW) XW)))),?_⟩
  have big:(0:Int)<10^70:=uB;refine⟨_,Z,num,Z,J,n1,λ_=>?_,λh=>absurd h J⟩;refine⟨_,Z,w,n,ps,Z,hW,hG,λc H1 hc s1=>?_⟩;refine nm ?_;dsimp only[List.set];have Qa:R.length=c:=by
   by_cases hex:∃U,Zf n ps U
   .obtain⟨_,_,_,_,_,_,_,_,h⟩:=hRw hex;exact h.uniq hc
   .have Vi:∀U,¬Zf n ps U:=λU hU=>hex ⟨U,hU⟩;rw[vR Vi,(BD hc).mpr Vi];rfl
  refine⟨_,Z,_,Z,_,_,Z,Z,_,Z,?_⟩;refine Xh (λQe=>?_) (λXn=>?_)
  .refine⟨Yj _,λr hr=>?_⟩;have s2:=XZ (o:=.lst []) hr
   have Wv:=s1.trans s2;refine q r [] _ (SameX.same Wv) (hT.same Wv) (s1.free hr) XS ?_;rw[LL J,yK];exact⟨Z,λi l e=>by simp at e⟩
  show(_:Prop);refine Wl ?_;obtain⟨U0,Fw⟩:∃U,Zf n ps U:=Yx λno=>by
   have:=(BD hc).mpr λU hU=>no ⟨U,hU⟩
   lia
  obtain⟨ld,F,inc,fu,Ut,hn,hs,Kl,_⟩:=hRw ⟨U0,Fw⟩;have We:=hT.same s1
  refine⟨_,Z,w,n,ps,Z,hW.same s1,hG,We,⟨U0,Fw⟩,λx F' Wo Km Kq H2 VY Rb ND RU Tq WV=>?_⟩;have eF:F'=F:=Tg (Ut.least F' VY.tr) (VY.least F Ut.tr)
  subst eF;have el:=aQ Rb ND hn hs
  subst el;refine⟨_,rfl,_,rfl,_,rfl,_,rfl,_,_,rfl,rfl,_,rfl,_,_,rfl,?_⟩;refine⟨x,n,ps,[],[],F',Wo,Km,Kq,R,_,_,_,rfl,RU,VY,hG,WV,Kl,J,n0,(by split<;>lia),(by split<;>lia),λr xs H3 LR Vy Vu TM hX=>?_⟩
  have e1:((R.drop num.toNat).take ((if (c:Int)<num+most then (c:Int) else num+most)-num).toNat)=(R.drop num.toNat).take most.toNat:=by rw[List.take_eq_take_iff,Wt];split<;>grind
  rw[e1]at hX;exact q r xs H3 ((SameX.same s1).trans (Tq.trans LR)) Vy (ZW3 WV ((SameX.same s1).trans Tq) Vu) TM hX
inductive spZL(K:Ad)(CP C Pt:Addr)(vs:List V)(H:Hp)(Q:VK)(_:XK):Prop
 |mk (w:Addr) (n:Int) (ps:Aa) (num:Int) (R:Ab) (_:vs=[.ref w,.int num]) (_:WebAt C H w n ps) (_:Zz n ps) (_:WY H Pt) (_:0<=num) (_:num<R.length) (_:RowW n ps R) (_:∀(r:Addr)(T:Ac)(H':Hp),R[num.toNat]?=some T->SameX Pt H H'->WY H' Pt->H' r=some (.tup<|IL T)->Q (.ref r) H')
theorem iN{R:Ab}{j:Nat}{T:Ac}(h:R[j]?=some T):(R.drop j).take 1=[T]:=by have hj:=(Xr.mp h);rw[JM hj.1,hj.2];rfl
theorem iM:FnScope ["web","number","trees"] ["web","number"] (Xt (top 65)):=WC B
theorem zS{Pt:Addr}(T:Txt K mg t)(hB:Qc K mg base t.dZB Pt):Xf P w base Xo T.qZL 45 (spZL K t.A_Part t.A_Web Pt):=by
 refine T.qZL.okI ["web","number","trees"] B λXC A outer s H vs Q E hr h=>?_
 .obtain⟨w,n,ps,num,R,rfl,hW,hG,hT,n0,n1,hR,q⟩:=h;refine⟨_,(XQ (Zg (i:=2) iM.nd Z (Or.inl Z)<|XA (zU T hB) hr T.qZK Zs<|XY (pv 0)<|XY (pv 1)<|XY XO XW)
   (XQ (Xx (Zh SH (Zd (Zk K) uG T.n_len Boot.«len»<|XY (pv 2) XW) XO<|Zo _)
   (XN ZX)
   Zm)
   (XN<|Zi<|ZC (Zc K) (pv 2) XO λ_ _=>rfl))),?_⟩
  obtain⟨ld,F,inc,fu,Ut,_,_,_,Qu⟩:=id hR;have iL:=wZ hG Qu
  obtain⟨U,hU⟩:∃U,R[num.toNat]?=some U:=⟨_,Xw J⟩;refine⟨_,Z,_,Z,w,n,ps,num,1,R,Z,hW,hG,hT,n0,J,uB,uB,λ_=>hR,λno=>absurd Ut.tr.1<|no F,λr xs H1 NY We Vu Wj hX=>?_⟩;refine nm ?_;dsimp only[List.set];rw[show(1:Int).toNat=1 from Z,iN hU]at hX;obtain⟨v,hv,c,rfl,hc⟩:=hX.2 0 U rfl;have hl:xs.length=1:=hX.1
  refine⟨_,Z,r,xs,Z,.inl<|SqL.of Wj,Z,_,Z,?_⟩;rw[Zy];refine Xh (λh0=>J) λ_=>?_;show(_:Prop)
  refine Wl ?_;exact⟨_,Z,r,xs,0,.ref c,Z,Z,SqL.of Wj,Zv (n:=0) Z hv,q c U H1 hU NY We hc⟩
inductive spZM(K:Ad)(CP C Pt:Addr)(d:Nat)(vs:List V)(H:Hp)(Q:VK)(_:XK):Prop
 |mk (x a n ps I O F inc T ld fu R size:_) (_:vs=[.ref x,.int size,.ref a]) (_:PartAt K CP C H x n ps I O F inc ld fu) (_:PartOk n ps I O ld F inc fu) (_:Zz n ps) (_:WY H Pt) (_:RowR n ps d I O ld R) (_:size=R.length) (_:SqT K H a (IL T)) (_:T∈R) (_:∀(j:Nat)(H':Hp),R[j]?=some T->SameX Pt H H'->WY H' Pt->Q (.int j) H')
theorem zR:FnScope ["part","size","tree","first","middle"] ["part","size","tree"] (Xt (top 63)):=WC B
theorem iK{Pt:Addr}(T:Txt K mg t)(hB:Qc K mg base t.dZB Pt)(d:Nat):Xf P w base Xo T.qZM (11+d) (spZM K t.A_Part t.A_Web Pt d):=by
 have key:∀d k sp,Xf P w base Xo T.qZM k sp->k<=10+d->(∀e,d=e+1->sp=spZM K t.A_Part t.A_Web Pt e)->Xf P w base Xo T.qZM (11+d) (spZM K t.A_Part t.A_Web Pt d):=by
  intro d k sp ih hk UB;rw[show 11+d=10+d+1 by lia];refine T.qZM.ok ["part","size","tree","first","middle"] B (λvs H Q E h=>?_) (λXC A outer s H vs Q E hr h=>?_)
  .obtain⟨x,a,n,ps,I,O,F,inc,U,ld,fu,R,size,rfl,_⟩:=h;rfl
  .obtain⟨x,ta,n,ps,I,O,F,inc,U,ld,fu,R,size,rfl,RU,Ut,hG,hT,hR,hsz,wI,hU,q⟩:=h;refine⟨_,(XQ (Xx (Zh Ec (Zp K (pv 0) Z) Qp<|Zo _)
   (XN<|Zi<|UJ K YL gm gn (ZE8 K<|Gm hr) (QY (zY T) (hr.mono uD) Z T.qZH.mm T.qZH.fn.kp T.qZH.bi .nil Zs<|XY (pv 0) XW)<|XY (pv 2) XW)
   Zm)
   (XQ (Zg (i:=3) zR.nd Z (Or.inl Z)<|QY (z4 T hB) (hr.mono uD) Z T.qZD.mm T.qZD.fn.kp T.qZD.bi .nil Zs<|XY (pv 0) XW)
   (XQ (Zg (i:=4) zR.nd Z (Or.inl Z)<|QY (zZ T) (hr.mono uD) Z T.qZF.mm T.qZF.fn.kp T.qZF.bi .nil Zs<|XY (pv 3) XW)
   (XQ (Xx (Zh (Dq K) (Zp K (pv 0) Z) (pv 2) Z)
   (XN<|Zi<|Zr SI (Zr SI (pv 1) XO)<|QY ih (hr.mono uD) Z T.qZM.mm T.qZM.fn.kp T.qZM.bi .nil Zs<|XY (QY (z3 T hB) (hr.mono uD) Z T.qZE.mm T.qZE.fn.kp T.qZE.bi .nil Zs<|XY (pv 0) XW)<|XY (Zr SI (pv 1)<|pv 4)<|XY (pv 2) XW)
   Zm)
   (XN<|Zi<|QY ih (hr.mono uD) Z T.qZM.mm T.qZM.fn.kp T.qZM.bi .nil Zs<|XY (pv 3)<|XY (pv 4)<|XY (pv 2) XW))))),?_⟩
   obtain⟨dx,w0,a,b,l,i,hx,hW,hA,Ru,hl,hi⟩:=id RU;refine⟨_,Z,x,_,dx,_,WZ fu,Z,hx,T.cl_Part,T.n_Part_further,Z,Z,_,Z,?_⟩;have hwith:=Ow hG hR
   cases hR with
   |und VY VB iU=>
    obtain⟨rfl,rfl,rfl⟩:=Ut.uniq VY;refine Wb ?_;refine⟨_,Z,x,n,ps,I,O,F,inc,ld,none,Z,RU,hG,Ut.tr.1,VB,iU,λr xs H1 s1 Vu Wj hX=>?_⟩;obtain⟨e,j,c,h1,h2,h3,h4,h5⟩:=Zg8 (K:=K) hX (SqK.same (k:=true) s1 wI) hU;refine⟨.inl ⟨Z,_,SqL.of Wj⟩,_,Z,1,r,xs,.ref ta,e,j,c,Z,Z,Wj,uB,h1,h2,h3,h4,?_⟩;exact q j H1 h5 (SameX.same s1) (hT.same s1)
   |div VY hIn Xm VZ Rt Ho Hn y0 y1 Hz vT vS=>
    rename_i e F' Wo z y A' uw;obtain⟨rfl,rfl,rfl⟩:=Ut.uniq VY;have iT:=UB e rfl
    subst iT;refine Vq ?_;refine Wl ?_;have TR:=YM.mp hIn
    have Ob:I.Nodup:=TR.1;have Oa:∀v∈I,0<=v/\v<(ps.length:Int):=λv hv=>Xm v (Yd _ hv)
    have NZ:∀v∈I,v∉O++[z]:=λv hv h=>(XE.mp h).elim (VZ v<|Yd _ hv) λh=>TR.2.2 v hv z S (XG.mp h);have Sb:O.length<=30:=by rw[Xu,Yu]at Rt;lia
    have Qa:size=(A'.length:Int)+uw.length:=by rw[hsz,Xu,YS];lia
    refine⟨_,Z,x,n,ps,I,O,F,inc,z,y,Z,RU,hG,hT,Ob,Oa,NZ,Rt,Hn,y0,y1,λx1 F1 Sa Ia H1 Ms OY NY We=>?_⟩;refine nm ?_;refine⟨_,Z,x1,n,ps,I,O++[z],F1,Sa,some y,Ia,Z,OY,hG,Ob,Oa,Rt,NZ,λc H2 hc s2=>?_⟩;have ec:=hc.uniq Hz
    subst ec;refine nm ?_;have Tq:SameX Pt H H2:=NY.trans (SameX.same s2)
    have WV:=We.same s2;have jL:=Tq _ _ (hT.ne hx S) hx
    have Hm:SqT K H2 ta (IL U):=SqK.samex (kd:=true) wI hT Tq;refine⟨_,Z,x,_,dx,_,.int z,Z,jL,T.cl_Part,T.n_Part_lead,Z,_,Z,ta,_,Z,.inr Hm,Z,ZT _,_,Z,?_⟩;rw[Pb];refine Xh (λhz=>?_) (λhz=>?_)
    .have hUB:U∈uw:=by
      rcases XE.mp hU with h|h
      .exact absurd hz ((Ow hG vT U h).2.2 z S)
      .exact GL.mp h
     refine⟨_,Z,_,_,Z,Z,_,Z,x,n,ps,I,O,F,inc,z,y,Z,RU.samex hT Tq,hG,WV,hIn,Xm,VZ,Sb,Ho,y0,y1,λx2 F2 Ox Bj H4 Tt Tw Sx TK=>?_⟩;refine⟨_,Z,_,Z,_,_,Z,Z,_,Z,?_⟩;refine⟨x2,ta,n,ps,I++[z],O,F2,Ox,U,some y,Bj,uw,_,Z,Tw,Tt,hG,TK,vS,J,SqK.samex (kd:=true) Hm WV Sx,hUB,λj H5 hj Hv NX=>?_⟩;have MG:=(Xr.mp hj).1
     refine⟨_,_,Z,Z,?_⟩;have e:size-1-(j:Int)=((A'.length+(uw.length-1-j):Nat):Int):=uE
     show Q (.int<|size-1-(j:Int)) H5;rw[e];refine q _ H5 ?_ ((Tq.trans Sx).trans Hv) NX;rwa[Yo J,JZ J,show uw.length-1-(A'.length+(uw.length-1-j)-A'.length)=j by lia]
    .have hUA:U∈A':=by
      rcases XE.mp hU with h|h
      .exact h
      .exact absurd ((Ow hG vS U<|GL.mp h).2.1 z S) hz
     refine Wl ?_;refine⟨_,Z,_,Z,_,Z,?_⟩;refine⟨x1,ta,n,ps,I,O++[z],F1,Sa,U,some y,Ia,A',_,Z,OY.samex We<|SameX.same s2,Ms,hG,WV,vT,Z,Hm,hUA,λj H3 hj LR Vy=>?_⟩;refine q j H3 ?_ (Tq.trans LR) Vy;rwa[Ys (Xr.mp hj).1]
 induction d with
 |zero=>exact key 0 0 _ aZ J λe h=>(by cases h)
 |succ d ih=>exact key (d+1) (11+d) _ ih J λe h=>(by cases h;rfl)
inductive spZN(K:Ad)(CP C Pt:Addr)(vs:List V)(H:Hp)(Q:VK)(_:XK):Prop
 |mk (w a n ps U R:_) (_:vs=[.ref w,.ref a]) (_:WebAt C H w n ps) (_:Zz n ps) (_:WY H Pt) (_:SqT K H a (IL U)) (_:Zf n ps U) (_:RowW n ps R) (_:U∈R) (_:∀(j:Nat)(H':Hp),R[j]?=some U->SameX Pt H H'->WY H' Pt->Q (.int j) H')
theorem Hl{Pt:Addr}(T:Txt K mg t)(hB:Qc K mg base t.dZB Pt):Xf P w base Xo T.qZN 44 (spZN K t.A_Part t.A_Web Pt):=by
 refine T.qZN.okI ["web","tree"] B λXC A outer s H vs Q E hr h=>?_
 .obtain⟨w,a,n,ps,U,R,rfl,hW,hG,hT,hA,hU,⟨ld,F,inc,fu,Ut,hn,hs,Kl,Qu⟩,vQ,q⟩:=h;refine⟨_,(XQ (ZS<|XA (LZ T) hr T.qZp Zs<|XY (pv 0)<|XY (pv 1) XW)
   (XN<|Zi<|XA (iK T hB 31) hr T.qZM Zs<|XY (XA (z6 T hB) hr T.qZC Zs<|XY (pv 0) XW)<|XY (XA (Om T) hr T.qZl Zs<|XY (pv 0) XW)<|XY (Zj (ZF K) uG T.n_tuple Boot.«tuple»<|XY (pv 1) XW) XW)),?_⟩
  refine⟨_,Z,_,Z,w,a,n,ps,true,U,Z,hW,hG,hA,λ_ H1 s1=>?_,λh=>absurd hU h⟩;have We:=hT.same s1
  refine⟨_,Z,w,n,ps,Z,hW.same s1,hG,We,⟨U,hU⟩,λx F' Wo Km Kq H2 VY Rb ND RU Tq WV=>?_⟩;have eF:F'=F:=Tg (Ut.least F' VY.tr) (VY.least F Ut.tr)
  subst eF;have el:=aQ Rb ND hn hs
  subst el;have SR:SameX Pt H H2:=(SameX.same s1).trans Tq
  refine⟨_,Z,w,n,ps,Z,hW.samex hT SR,hG,λc H3 hc s3=>?_⟩;have ec:=hc.uniq Qu
  have Ur:=SR.trans (SameX.same s3);have Vy:=WV.same s3
  have MC:SqT K H3 a (IL U):=SqK.samex (kd:=true) hA hT Ur;refine⟨_,Z,a,_,Z,.inr ⟨MC,?_⟩⟩;exact⟨x,a,n,ps,[],[],F',Wo,U,Km,Kq,R,_,Z,RU.samex WV<|SameX.same s3,VY,hG,Vy,Kl,by rw[ec],MC,vQ,λj H4 hj Sx TK=>q j H4 hj (Ur.trans Sx) TK⟩
inductive spZO(K:Ad)(CP C Pt:Addr)(vs:List V)(H:Hp)(Q:VK)(_:XK):Prop
 |mk (w a:Addr) (n:Int) (ps:Aa) (U:Ac) (R:Ab) (j:Nat) (_:vs=[.ref w,.ref a]) (_:WebAt C H w n ps) (_:Zz n ps) (_:WY H Pt) (_:SqT K H a (IL U)) (_:Zf n ps U) (_:RowW n ps R) (_:R.Nodup) (_:R[j]?=some U) (_:∀(v:V)(H':Hp),TupN H' v (R[j+1]?)->SameX Pt H H'->WY H' Pt->Q v H')
theorem iI:FnScope ["web","tree","trees"] ["web","tree"] (Xt (top 67)):=WC B
theorem iH{Pt:Addr}(T:Txt K mg t)(hB:Qc K mg base t.dZB Pt):Xf P w base Xo T.qZO 45 (spZO K t.A_Part t.A_Web Pt):=by
 refine T.qZO.okI ["web","tree","trees"] B λXC A outer s H vs Q E hr h=>?_
 .obtain⟨w,a,n,ps,U,R,j,rfl,hW,hG,hT,hA,hU,hR,hN,hj,q⟩:=h;refine⟨_,(XQ (Zg (i:=2) iI.nd Z (Or.inl Z)<|XA (zU T hB) hr T.qZK Zs<|XY (pv 0)<|XY (Zr UM (XA (Hl T hB) hr T.qZN Zs<|XY (pv 0)<|XY (pv 1) XW) XO)<|XY XO XW)
   (XN<|Zi<|yr (Zh SH (Zd (Zk K) uG T.n_len Boot.«len»<|XY (pv 2) XW) XO<|Zo _) Qp<|ZC (Zc K) (pv 2) XO λ_ _=>rfl)),?_⟩
  obtain⟨ld,F,inc,fu,Ut,_,_,_,Qu⟩:=id hR;have iL:=wZ hG Qu
  have jl:=(Xr.mp hj).1;refine⟨_,Z,_,Z,_,Z,w,a,n,ps,U,R,Z,hW,hG,hT,hA,hU,hR,Xi hj,λi H1 hi NY We=>⟨_,_,Z,Z,?_⟩⟩;obtain rfl:i=j:=(yZ (Xr.mp hi).1 hN).mp (hi.trans hj.symm);refine⟨w,n,ps,_,1,R,Z,hW.samex hT NY,hG,We,(by show(0:Int)<=(i:Int)+1;omega),(by show(i:Int)+1<10^70;omega),uB,uB,λ_=>hR,λno=>absurd Ut.tr.1<|no F,λr xs H2 Tq WV Vu Wa hX=>?_⟩;refine nm ?_;dsimp only[List.set];rw[show(1:Int).toNat=1 from Z,show((i:Int)+1).toNat=i+1 from Z]at hX;have SR:=NY.trans Tq
  refine⟨_,Z,r,xs,Z,.inl<|SqL.of Wa,Z,_,Z,?_⟩;rw[Zy];cases hn:R[i+1]? with
  |none=>
   rw[hn]at q;rw[LL (zb.mp hn),yK]at hX;refine Xh (λ_=>q .non H2 Z SR WV) (λh=>absurd (by rw[hX.1];rfl) h)
  |some U2=>
   rw[hn]at q;have e:(R.drop<|i+1).take 1=[U2]:=by obtain⟨h1,h2⟩:=Xr.mp hn;rw[JM h1,h2];rfl
   rw[e]at hX;obtain⟨v,hv,c,rfl,hc⟩:=hX.2 0 U2 rfl;refine Xh (λh=>absurd h<|by rw[hX.1];show ¬(1:Int)=0;decide) λ_=>?_;exact⟨_,Z,r,xs,0,.ref c,Z,Z,SqL.of Wa,Zv (n:=0) Z hv,q (.ref c) H2 ⟨c,Z,hc⟩ SR WV⟩
inductive spZP(vs:List V)(H:Hp)(Q:VK)(_:XK):Prop
 |mk (w:Str) (_:vs=[.str w]) (_:(w.cps.all λc=>decide<|c<128)=true) (_:w.length<=100000) (_:∀H':Hp,Same H H'->Q (.bl<|QD w.cps.toList) H')
theorem Kc(x y:Str):decide (V.str x=V.str y)=decide (x.cps.toList=y.cps.toList):=EX.mpr ⟨λe=>by cases e;rfl,λe=>by rw[cm e]⟩
theorem iG{cs:List Nat}{c:Nat}(h:c∈Wk cs):c∈cs:=by
 unfold Wk at h;split at h
 .exact List.mem_of_mem_tail h
 .exact h
theorem iF(cs:List Nat):(Wk cs).length<=cs.length:=by
 unfold Wk;split
 .rw[yU];omega
 .exact XJ _
theorem Rr{l:List Nat}{f:Nat->Bool}:(l.map λc=>!f c).any id=false↔∀c∈l,f c=true:=by
 rw[List.any_eq_false];constructor
 .intro h c hc
  have:=h (!f c) (Yz.mpr ⟨c,hc,Z⟩)
  cases e:f c with
  |true=>rfl
  |false=>rw[e]at this;exact absurd Z this
 .intro h b hb;obtain⟨c,hc,rfl⟩:=Yz.mp hb;rw[h c hc];decide
theorem iE:FnScope ["word","figures"] ["word"] (Xt (top 71)):=WC B
theorem iC(T:Txt K mg t):Xf P w base Xo T.qZP 1 spZP:=by
 refine T.qZP.okI ["word","figures"] B λXC A outer s H vs Q E hr h=>?_
 .obtain⟨w,rfl,ha,hl,q⟩:=h;refine⟨_,(XQ (Zg (i:=1) iE.nd Z (Or.inl Z)<|yr (PD<|UJ K Fj PySem.F.slot_str_startswith PySem.F.type_str_startswith ZD8 (pv 0)<|XY PF XW) (ZY ma (pv 0) (QX XO) Pq)<|pv 0)
   (XQ (Xx (PW.pt<|Sq (UD<|yj Ll Ll XO (Zd ZV4 uG T.n_len Boot.«len»<|XY (pv 1) XW)<|yw (v:=V.int 60) Z T.g_MOST_FIGURES.choose_spec ⟨_,Z⟩)<|JA<|PD<|Zd (eK K Z) uG T.n_any Boot.«any»<|XY (WG Z (sc0:=Xt<|top 71) (N0:=["word","figures"]) (N':=["sign"]) (o:=1) (fr:=[]) ⟨Z,B,B,B,Z,B⟩ (md<|pv 1) (Zt uB) (λ_ _ _ _=>(Ze (i:=0) (show List.Nodup (["sign"]:List Str) by decide +kernel) Z<|Or.inl Z)) (λ_ _ _ _=>ZR) λ_ _ _ _=>(Sn ZE4 (pv 0) (yw (v:=V.str "0123456789") Z T.g_FIGURES.choose_spec ⟨_,Z⟩) Z)) XW)
   (XN<|Zi UE)
   Zm)
   (XN<|Zi<|Lu (Sn SH (pv 0) PF<|Zo _)<|Jz<|Sn Ub (ZC sL (pv 1) XO λ_ _=>rfl) PF<|Zo _))),?_⟩
  have hw:=TQ w;have z1:100000<=sizeLine:=uB
  refine mq (λσ H'=>H'=H/\∃F:Str,σ=[some (.str w),some (.str F)]/\F.cps.toList=Wk w.cps.toList) ?_ ?_;rotate_left
  .intro Kn hK;refine⟨_,Z,Z,_,_,Z,Z,_,Z,?_⟩;rw[Zk8];refine Xh (λhs=>?_) (λhs=>?_)
   .have HW:1<=w.cps.toList.length:=by
     cases e:w.cps.toList with
     |nil=>rw[e]at hs;cases hs
     |cons c r=>simp
    have et:=ZC6 HW;refine⟨_,Z,_,Z,w,Z,?_,hK _ _ ⟨Z,_,Z,?_⟩⟩
    .rw[TQ,et,yU];grind
    .rw[et];unfold Wk;rw[if_pos hs]
   .refine⟨_,Z,hK _ _ ⟨Z,_,Z,?_⟩⟩;unfold Wk;rw[if_neg hs]
  rintro σ H' ⟨rfl,F,rfl,hF⟩;have Hq:=TQ F
  have NG:=iF w.cps.toList;have hFs:F.length<=100000:=by rw[Hq,hF];lia
  have hFa:(F.cps.all λc=>decide<|c<128)=true:=by rw[<-Array.all_toList,Ro]at ha ⊢;intro c hc;rw[hF]at hc;exact ha c (iG hc)
  have bad:¬(1<=(Wk w.cps.toList).length/\(Wk w.cps.toList).length<=60/\∀c∈Wk w.cps.toList,48<=c/\c<=57)->∀H2:Hp,Same H' H2->Q (.bl false) H2:=λh H2 s2=>by
   have e:QD w.cps.toList=false:=YR λz=>h ⟨z.1,z.2.1,z.2.2.1⟩
   have:=q H2 s2
   rwa[e]at this
  refine⟨_,Z,F,Z,J,_,_,Z,Z,_,Z,?_⟩;refine Xh (λh1=>?_) λh1=>?_;rotate_left
  .refine⟨_,Z,?_⟩;refine Wb ?_;refine Wb ?_;exact bad (λz=>h1 (by have:=z.1;rw[<-hF,<-Hq]at this;lia)) _ (Same.refl _)
  refine⟨_,_,Z,Z,_,Z,?_⟩;refine WK (λh60=>?_) λh60=>?_;rotate_left
  .refine Wb ?_;exact bad (λz=>h60 (by have:=z.2.1;rw[<-hF,<-Hq]at this;lia)) _ (Same.refl _)
  refine⟨_,Z,F,Z,hFa,Ca (λi ys H2=>H2=H'/\ys=((F.cps.toList.take i).map λc=>!decide (48<=c/\c<=57)).map V.bl) ⟨Z,Z⟩ (by show F.length<sizeLine;grind) (λi ys H2 _ zz=>by obtain⟨_,e⟩:=zz;rw[e,Yb,Yb,Yn];grind) ?_ ?_⟩
  .rintro i c ys H2 hc ⟨rfl,rfl⟩ uz Xk;refine Nz ?_;refine⟨_,Z,_,_,Z,Z,?_⟩;rw[lS];refine Xk _ _ ⟨Z,?_⟩;have WI:F.cps.toList[i]?=some c:=by rwa[YW]
   rw[YJ,WI,YG,YG];rfl
  rintro ys H2 ⟨rfl,rfl⟩ p hp;rw[YO (by rw[YE];exact XJ _)];refine⟨p,_,Z,SqL.of XS,_,Z,?_⟩;have s3:=XZ (o:=.lst<|(F.cps.toList.map λc=>!decide (48<=c/\c<=57)).map V.bl) hp
  generalize upd H2 p (.lst<|(F.cps.toList.map λc=>!decide (48<=c/\c<=57)).map V.bl)=H3 at *;cases hb:(F.cps.toList.map λc=>!decide (48<=c/\c<=57)).any id with
  |true=>
   refine Wb ?_;refine bad (λz=>?_) _ s3;rw[<-hF]at z;rw[Rr.mpr λc hc=>Yp (z.2.2 c hc)]at hb;cases hb
  |false=>
   refine Vq ?_;have Wg:=Rr.mp hb
   rw[hF]at Wg Hq;refine Wl ?_;cases hf:Wk w.cps.toList with
   |nil=>rw[hf]at Hq;simp at Hq;lia
   |cons c r=>
    have hF0:Wr F.cps.toList 0=some c:=by rw[hF,hf];exact Zv (n:=0) uB rfl
    refine⟨_,Z,Z,_,Z,?_⟩;rw[Kc];have e0:(Str.ofString "0").cps.toList=[48]:=uG
    rw[e0];have fin:∀b:Bool,(b=true↔w.cps.toList=[48]\/c≠48)->Q (.bl b) H3:=λb Ta=>by
     have e:QD w.cps.toList=b:=by
      rw[Qq,Ta];unfold QD;rw[YV];constructor
      .rintro⟨_,_,_,h⟩;rcases h with h|h
       .exact .inl h
       .exact .inr λe=>h (by rw[hf,e];rfl)
      .intro h;refine⟨J,J,λx hx=>Yr<|Wg x hx,?_⟩;rcases h with h|h
       .exact .inl h
       .exact .inr λe=>h (by rw[hf]at e;exact Ye e)
     have:=q H3 s3
     rwa[e]at this
    refine Xh (λh0=>?_) (λh0=>?_)
    .exact fin true ⟨λ_=>.inl h0,λ_=>rfl⟩
    .refine⟨_,Z,F,0,c,Z,Z,uE,hF0,Z,?_⟩;rw[Kc,e0];refine fin _ ⟨λh=>.inr λe=>?_,λh=>?_⟩
     .rw[e]at h;exact absurd h uB
     .rcases h with h|h
      .exact absurd h h0
      .rw[YR λe=>h (ET e).1];rfl
inductive spZQ(vs:List V)(H:Hp)(Q:VK)(_:XK):Prop
 |mk (i:Int) (_:vs=[.str (nT i)]) (_:-(10^60)<i) (_:i<10^60) (_:∀H':Hp,Same H H'->Q (.int i) H')
theorem iz(T:Txt K mg t):Xf P w base Xo T.qZQ 2 spZQ:=by
 refine T.qZQ.okI ["word"] B λXC A outer s H vs Q E hr h=>?_
 .obtain⟨i,rfl,h1,h2,q⟩:=h;refine⟨_,(XQ (Xx (UD<|PD<|XA (iC T) hr T.qZP Zs<|XY (pv 0) XW)
   (XN ZX)
   Zm)
   (XN<|Zi<|Zj Zd9 uG T.n_int Boot.«int»<|XY (pv 0) XW)),?_⟩
  have hl:=OF (k:=60) uB h1 h2;refine⟨_,Z,nT i,Z,lW i,J,λH1 s1=>⟨_,Z,?_⟩⟩;rw[OG,lY h1 h2];refine Vq ?_;refine Wl ?_;exact⟨_,Z,nT i,i,Z,l7 (k:=60) uB uB h1 h2,J,q H1 s1⟩
inductive spZR(K:Ad)(vs:List V)(H:Hp)(Q:VK)(_:XK):Prop
 |mk (name l:_) (_:vs=[.str (Str.join Qd<|name::l.map nT),.str name,.int l.length]) (_:32∉name.cps.toList) (_:name.length<=100) (_:l.length<=10) (_:Told l) (_:∀r H',Same H H'->H' r=some (.lst<|IL l)->Q (.ref r) H')
theorem iy:FnScope ["line","name","many","words"] ["line","name","many"] (Xt (top 73)):=WC B
theorem zQ(T:Txt K mg t):Xf P w base Xo T.qZR 3 (spZR K):=by
 refine T.qZR.okI ["line","name","many","words"] B λXC A outer s H vs Q E hr h=>?_
 .obtain⟨name,l,rfl,hn,AB,Vg,hl,q⟩:=h;refine⟨_,(XQ (Zg (i:=3) iy.nd Z (Or.inl Z)<|UJ K Fj Fl gd Cb (pv 0)<|XY PF XW)
   (XQ (Xx (PW.pt<|Sq (Zh Ub (ZC (Zc K) (pv 3) XO λ_ _=>rfl) (pv 1)<|Zo _)<|JA<|Zh Ub (Zd (Zk K) uG T.n_len Boot.«len»<|XY (pv 3) XW) (Zr UM (pv 2) XO)<|Zo _)
   (XN ZX)
   Zm)
   (XN<|Zi<|WG Z (sc0:=Xt<|top 73) (N0:=["line","name","many","words"]) (N':=["word"]) (o:=1) (fr:=[]) ⟨Z,B,B,B,Z,B⟩ (ZQ K<|ZY (Pd K) (pv 3) (QX XO) Pq) (Zt uB) (λ_ _ _ _=>(Ze (i:=0) (show List.Nodup (["word"]:List Str) by decide +kernel) Z<|Or.inl Z)) (λ_ _ _ _=>ZR) λ_ _ _ _=>(XA (iz T) hr T.qZQ Zs<|XY (pv 0) XW)))),?_⟩
  have UB:=BR (l:=l) hn;have hlen:(Str.join Qd<|name::l.map nT).length<=2000:=by
   rw[OD];refine Yv (lU (uw:=100) λa ha=>?_) (by rw[Yt,Yb];lia);rcases Yg.mp ha with e|e
   .rw[e];exact AB
   .have:=lT hl a e;lia
  have z1:2000<=sizeLine:=uB;refine⟨_,Z,Z,_,_,Z,Z,Z,J,?_,λp hp=>?_⟩
  .show(Txt.split _ Qd).length<=_;rw[UB,Yt,Yb];lia
  have e:Txt.split (Str.join Qd<|name::l.map nT) (Str.ofString " ")=name::l.map nT:=UB;rw[e];have u1:=XZ (o:=.lst<|TL<|name::l.map nT) hp
  have UO:(upd H p<|.lst<|TL<|name::l.map nT) p=some (.lst<|TL<|name::l.map nT):=XS;generalize upd H p (.lst<|TL<|name::l.map nT)=H1 at *;refine nm ?_;refine⟨_,Z,p,_,0,.str name,Z,Z,SqL.of UO,Zv (n:=0) uB Z,_,Z,Z,_,Z,?_⟩;refine QS Z ?_;refine⟨_,Z,p,_,Z,.inl<|SqL.of UO,_,Z,_,_,Z,Z,Z,_,Z,?_⟩;rw[FO,Yt,Yb,Zy];refine QS J ?_;refine Wl ?_;refine⟨_,Z,_,Z,p,_,Z,SqL.of UO,λp2 VO=>?_⟩;rw[xu uB];have e2:(TL<|name::l.map nT).drop (1:Int).toNat=TL (l.map nT):=rfl
  rw[e2];have u2:=XZ (o:=.lst<|TL<|l.map nT) VO
  have Nq:(upd H1 p2<|.lst<|TL<|l.map nT) p2=some (.lst<|TL<|l.map nT):=XS;generalize upd H1 p2 (.lst<|TL<|l.map nT)=H2 at *;refine⟨p2,Z,⟨_,SqL.of Nq⟩,QR (K:=K) (a:=p2) (xs:=TL<|l.map nT) (λi ys H3=>Same H2 H3/\ys=IL (l.take i)) ⟨Same.refl _,Z⟩ (Zl<|by rw[FO,Yb];lia) (λi ys H3 _ zz=>by obtain⟨e,ey⟩:=zz;exact⟨SqL.of<|e _ _ Nq,by rw[ey,XD,Yn];lia⟩) ?_ ?_⟩
  .rintro i v ys H3 hi ⟨s3,rfl⟩ uz Xk;obtain⟨x,rfl,hx⟩:=BP hi;rw[Yl]at hx;obtain⟨z,hz,rfl⟩:=gc.mp hx;have hb:=hl z (Xi hz)
   refine Nz ?_;refine⟨_,Z,z,Z,hb.1,hb.2,λH4 s4=>Xk _ _ ⟨s3.trans s4,?_⟩⟩;rw[YJ,hz];show IL (l.take i)++[V.int z]=IL (l.take i++[z])
   rw[ZE]
  rintro ys H3 ⟨s3,rfl⟩ p3 Np;rw[FO,Yb,YD];exact q p3 _ (u1.trans<|u2.trans<|s3.trans<|XZ Np) XS
inductive spZS(K:Ad)(C:Addr)(vs:List V)(H:Hp)(Q:VK)(_:XK):Prop
 |mk (n ps ls:_) (_:vs=[.str (Se n ps ls)]) (_:Zz n ps) (_:ls.length=ps.length) (_:Told ls) (_:∀t w a H',Same H H'->H a=none->H' t=some (.tup [.ref w,.ref a])->WebAt C H' w n ps->H' a=some (.lst<|IL ls)->Q (.ref t) H')
theorem Hk:FnScope ["text","lines","places","ties"] ["text"] (Xt (top 74)):=WC B
theorem ix(T:Txt K mg t):Xf P w base Xo T.qZS 4 (spZS K t.A_Web):=by
 refine T.qZS.okI ["text","lines","places","ties"] B λXC A outer s H vs Q E hr h=>?_
 .obtain⟨n,ps,ls,rfl,hG,hl,hT,q⟩:=h;refine⟨_,(XQ (Zg (i:=1) Hk.nd Z (Or.inl Z)<|UJ K Fj Fl gd Cb (pv 0)<|XY PF XW)
   (XQ (Zg (i:=2) Hk.nd Z (Or.inl Z)<|XA (zQ T) hr T.qZR Zs<|XY (ZC (Zc K) (pv 1) XO λ_ _=>rfl)<|XY PF<|XY XO XW)
   (XQ (Uz (i:=3) Z Hk.nd Z Z (sc0:=Xt<|top 74) (N0:=["text","lines","places","ties"]) (N':=["line"]) (o:=1) (fr:=[]) ⟨Z,B,B,B,Z,B⟩ (ZQ K<|ZY (Pd K) (pv 1) (QX XO) Pq) (Zt uB) (λ_ _ _ _=>(Ze (i:=0) (show List.Nodup (["line"]:List Str) by decide +kernel) Z<|Or.inl Z)) (λ_ _ _ _=>ZR) λ_ _ _ _=>(XA (zQ T) hr T.qZR Zs<|XY (pv 0)<|XY PF<|XY XO XW))
   (XN<|Zi<|WN<|XY (Pr T.k_Web (AS T) (hr.mono uB) Z T.c_Web T.bZ8 .nil Zs<|XY (ZC (Zc K) (pv 2) XO λ_ _=>rfl)<|XY (WG Z (sc0:=Xt<|top 74) (N0:=["text","lines","places","ties"]) (N':=["tie"]) (o:=1) (fr:=[]) ⟨Z,B,B,B,Z,B⟩ (ZQ K<|pv 3) (Zt uB) (λ_ _ _ _=>(Ze (i:=0) (show List.Nodup (["tie"]:List Str) by decide +kernel) Z<|Or.inl Z)) (λ_ _ _ _=>ZR) λ_ _ _ _=>(WN<|XY (ZC (Zc K) (pv 0) XO λ_ _=>rfl)<|XY (ZC (Zc K) (pv 0) XO λ_ _=>rfl) XW)) XW)<|XY (WG Z (sc0:=Xt<|top 74) (N0:=["text","lines","places","ties"]) (N':=["tie"]) (o:=1) (fr:=[]) ⟨Z,B,B,B,Z,B⟩ (ZQ K<|pv 3) (Zt uB) (λ_ _ _ _=>(Ze (i:=0) (show List.Nodup (["tie"]:List Str) by decide +kernel) Z<|Or.inl Z)) (λ_ _ _ _=>ZR) λ_ _ _ _=>(ZC (Zc K) (pv 0) XO λ_ _=>rfl)) XW)))),?_⟩
  have iw:=hG.2.2.1;have AJ:=hG.1
  have NJ:=hG.2.1;have two:2<=sizeLine:=uB
  have z1:100000<=sizeLine:=uB;have wl:=lP (n:=n) hl
  have UB:=BQ (n:=n) (ps:=ps) (ls:=ls);have tlen:(Se n ps ls).length<=100000:=by unfold Se;rw[Im];refine Yv (lU (uw:=400)<|bZ hG hT) (by rw[wl];lia)
  refine⟨_,Z,Z,_,_,Z,Z,Z,J,?_,λp hp=>?_⟩
  .show(Txt.split _ BW).length<=_;rw[UB,wl];lia
  have e:Txt.split (Se n ps ls) (Str.ofString "\n")=Wx n ps ls:=UB;rw[e];have u1:=XZ (o:=.lst<|TL<|Wx n ps ls) hp
  have UO:(upd H p<|.lst<|TL<|Wx n ps ls) p=some (.lst<|TL<|Wx n ps ls):=XS;generalize upd H p (.lst<|TL<|Wx n ps ls)=H1 at *;refine nm ?_;refine⟨_,Z,p,_,0,.str<|Str.ofString "places "++nT n,Z,Z,SqL.of UO,Zv (n:=0) uB Z,Str.ofString "places",[n],by rw[cb];rfl,uB,uB,(show 1<=10 by decide),λz hz=>by rw[XG.mp hz];omega,λpA H2 s2 kf=>?_⟩;refine nm ?_;have VO:=s2 _ _ UO
  refine⟨_,Z,_,Z,p,_,Z,SqL.of VO,λp2 Nq=>?_⟩;rw[xu uB];have e2:(TL<|Wx n ps ls).drop (1:Int).toNat=TL (List.zipWith VA ps ls):=rfl
  rw[e2];have u3:=XZ (o:=.lst<|TL<|List.zipWith VA ps ls) Nq
  have h3:(upd H2 p2<|.lst<|TL<|List.zipWith VA ps ls) p2=some (.lst<|TL<|List.zipWith VA ps ls):=XS;have iu:=u3 _ _ kf
  generalize upd H2 p2 (.lst<|TL<|List.zipWith VA ps ls)=H3 at *;have zl:(List.zipWith VA ps ls).length=ps.length:=by rw[Nj];grind
  obtain⟨R,hR⟩:∃R,R=List.zipWith (λ(p:Int×Int) l=>[p.1,p.2,l]) ps ls:=⟨_,Z⟩;have Rl:R.length=ps.length:=by rw[hR,Nj];grind
  have Rat:∀(i:Nat)(p:Int×Int)(l:Int),ps[i]?=some p->ls[i]?=some l->R[i]?=some [p.1,p.2,l]:=λi p l h1 h2=>by rw[hR,LK,h1,h2]
  refine⟨p2,Z,⟨_,SqL.of h3⟩,QR (K:=K) (a:=p2) (xs:=TL<|List.zipWith VA ps ls) (λi ys H4=>Same H3 H4/\i<=ps.length/\Bears (QQ H4) ys (R.take i)) ⟨Same.refl _,Yj _,⟨Z,λi a e=>by simp at e⟩⟩ (Zl<|by rw[FO,zl];lia) (λi ys H4 _ zz=>by obtain⟨e,hi,h⟩:=zz;exact⟨SqL.of<|e _ _ h3,by rw[h.1,Yn];lia⟩) ?_ ?_⟩
  .rintro i v ys H4 hi ⟨s4,VB,hB⟩ uz Xk;obtain⟨x,rfl,hx⟩:=BP hi;have Wh:i<ps.length:=by rw[<-zl];exact(Xr.mp hx).1
   obtain⟨pp,PU⟩:∃pp,ps[i]?=some pp:=⟨_,Xw Wh⟩;obtain⟨l,Vg⟩:∃l,ls[i]?=some l:=⟨_,Xw J⟩;rw[LK,PU,Vg]at hx;obtain rfl:VA pp l=x:=Ye hx;refine Nz ?_;refine⟨_,Z,Str.ofString "tie",[pp.1,pp.2,l],Z,uB,uB,(show 3<=10 by decide),lO hG hT PU Vg,λr H5 s5 hr=>Xk _ _ ⟨s4.trans s5,Wh,?_⟩⟩;rw[YJ,Rat i pp l PU Vg];exact(hB.imp λ_ _ zz=>by obtain⟨r,e,h⟩:=zz;exact⟨r,e,s5 _ _ h⟩).snoc ⟨r,Z,hr⟩
  rintro ys H4 ⟨s4,_,hB⟩ p3 Np;rw[FO,zl,YO J]at hB;have u5:=XZ (o:=.lst ys) Np
  have h5:(upd H4 p3<|.lst ys) p3=some (.lst ys):=XS;have ir:Bears (QQ<|upd H4 p3<|.lst ys) ys R:=hB.imp λ_ _ zz=>by obtain⟨r,e,h⟩:=zz;exact⟨r,e,u5 _ _ h⟩
  have iq:=(s4.trans u5) _ _ iu;have zP:=u1.trans (s2.trans<|u3.trans<|s4.trans u5)
  generalize upd H4 p3 (.lst ys)=H5 at *;have HY:=ir.1
  refine nm ?_;have zN:∀i row,R[i]?=some row->∃(p:Int×Int)(l:Int),ps[i]?=some p/\ls[i]?=some l/\row=[p.1,p.2,l]:=λi row h=>by
   have Wh:i<ps.length:=by rw[<-Rl];exact(Xr.mp h).1
   obtain⟨pp,PU⟩:∃pp,ps[i]?=some pp:=⟨_,Xw Wh⟩;obtain⟨l,Vg⟩:∃l,ls[i]?=some l:=⟨_,Xw J⟩;rw[Rat i pp l PU Vg]at h;exact⟨pp,l,PU,Vg,(Ye h).symm⟩
  refine⟨_,Z,pA,_,0,.int n,Z,Z,SqL.of iq,Zv (n:=0) uB Z,_,Z,p3,Z,⟨_,SqL.of h5⟩,QR (K:=K) (a:=p3) (xs:=ys) (λi us H6=>Same H5 H6/\i<=ys.length/\PairsV H6 us (ps.take i)) ⟨Same.refl _,Yj _,PairsV.nil⟩ (Zl J) (λi us H6 _ zz=>by obtain⟨e,hi,h⟩:=zz;exact⟨SqL.of<|e _ _ h5,by rw[h.1,Yn];lia⟩) ?_ ?_⟩
  .rintro i v us H6 hi ⟨s6,VB,hU⟩ uz Xk;obtain⟨row,Hj,r,rfl,hr⟩:=ir.at hi;obtain⟨pp,l,PU,Vg,rfl⟩:=zN i row Hj;have Xj:=(Xr.mp hi).1
   refine Nz ?_;refine⟨_,Z,r,_,0,.int pp.1,Z,Z,SqL.of<|s6 _ _ hr,Zv (n:=0) uB Z,_,Z,r,_,1,.int pp.2,Z,Z,SqL.of<|s6 _ _ hr,Zv (n:=1) uB Z,two,λc hc=>Xk _ _ ⟨s6.trans<|XZ hc,Xj,?_⟩⟩;rw[YJ,PU];exact(hU.same<|XZ hc).snoc ⟨c,Z,XS⟩
  rintro us H6 ⟨s6,_,hU⟩ lA i6;rw[HY,Rl,YD]at hU;have u7:=XZ (o:=.lst us) i6
  have h7:(upd H6 lA<|.lst us) lA=some (.lst us):=XS;have hU7:=hU.same u7
  have SU:=s6.trans u7;generalize upd H6 lA (.lst us)=H7 at *;intro x dx nx Nl Mb;have t1:Same H7 (upd (upd H7 dx<|.own x) x<|.ins t.A_Web dx []):=Zq (XZ Nl) (by rwa[Zb (XI Mb)])
  refine⟨x,dx,n,lA,false,us,ps,Z,XS,λo=>?_,hU7.same t1,hG,λH8 hW k3=>⟨Z,?_⟩⟩
  .exact(Zu nx t1).seq (SqL.of h7)
  have s8:Same H7 H8:=λb o e=>k3 b o (t1 b o e) (Za e nx);have h8:=(SU.trans s8) _ _ h5
  have hB8:Bears (QQ H8) ys R:=ir.imp λ_ _ zz=>by obtain⟨r,e,h⟩:=zz;exact⟨r,e,(SU.trans s8) _ _ h⟩
  refine⟨_,Z,p3,Z,⟨_,SqL.of h8⟩,QR (K:=K) (a:=p3) (xs:=ys) (λi us H9=>H9=H8/\us=IL (ls.take i)) ⟨Z,Z⟩ (Zl J) (λi us H9 _ zz=>by obtain⟨e,h⟩:=zz;exact⟨e▸SqL.of h8,by rw[h,XD,Yn];lia⟩) ?_ ?_⟩
  .rintro i v us H9 hi ⟨rfl,rfl⟩ uz Xk;obtain⟨row,Hj,r,rfl,hr⟩:=hB8.at hi;obtain⟨pp,l,PU,Vg,rfl⟩:=zN i row Hj;refine Nz ?_;refine⟨_,Z,r,_,2,.int l,Z,Z,SqL.of hr,Zv (n:=2) uB Z,Xk _ _ ⟨Z,?_⟩⟩;rw[YJ,Vg];show IL (ls.take i)++[V.int l]=IL (ls.take i++[l])
   rw[ZE]
  rintro us9 H9 ⟨rfl,rfl⟩ aA haA;rw[HY,Rl,<-hl,YD];have u9:=XZ (o:=.lst<|IL ls) haA
  have sH9:=zP.trans (SU.trans s8);refine⟨two,λtA Rv=>?_⟩;have ip:=XZ (o:=.tup [.ref x,.ref aA]) Rv
  exact q tA x aA _ (sH9.trans<|u9.trans ip) (sH9.free haA) XS (hW.same<|u9.trans ip) (ip _ _ XS)
inductive spZT(K:Ad)(vs:List V)(H:Hp)(Q:VK)(_:XK):Prop
 |mk (a ns k:_) (_:vs=[.ref a,.int k]) (_:SqL K H a (IL ns)) (_:0<=k) (_:∀r:Int,0<=r->r<10^60->Q (.int r) H)
theorem ik(T:Txt K mg t):Xf P w base Xo T.qZT 1 (spZT K):=by
 refine T.qZT.okI ["script","k"] B λXC A outer s H vs Q E hr h=>?_
 .obtain⟨a,ns,k,rfl,hS,hk,q⟩:=h;refine⟨_,(XQ (Xx (Zh UC (pv 1) (Zd (Zk K) uG T.n_len Boot.«len»<|XY (pv 0) XW)<|Zo _)
   (XN<|Zi<|Zr ZL (ZC (Zc K) (pv 0) (pv 1) λ_ _=>rfl)<|Zr Tn XO XO)
   Zm)
   (XN<|Zi XO)),?_⟩
  refine⟨_,Z,_,Z,a,_,Z,.inl hS,_,_,Z,Z,_,Z,?_⟩;refine DE (λhc=>?_) (λ_=>?_)
  .have hc:=Yr hc;rw[XD]at hc;obtain⟨z,hz⟩:∃z,ns[k.toNat]?=some z:=⟨_,Xw J⟩;refine⟨_,Z,_,Z,a,_,k,.int z,Z,Z,hS,Zv (n:=k.toNat) J (by rw[Yl,hz];rfl),_,_,Z,Z,⟨uB,uB,uB⟩,_,_,Z,Z,?_,?_⟩
   .show(0:Int)<10^60;decide
   .exact q _ (YZ _ uB) (YX _ uB)
  .exact q 0 uB uB
inductive spZU(vs:List V)(H:Hp)(Q:VK)(_:XK):Prop
 |mk (c k:_) (_:vs=[.int c,.int k]) (_:∀r:Int,0<=r->r<2147483587->Q (.int r) H)
theorem zM:FnScope ["cell","k","first","second"] ["cell","k"] (Xt (top 77)):=WC B
theorem Hi(T:Txt K mg t):Xf P w base Xo T.qZU 1 spZU:=by
 refine T.qZU.okI ["cell","k","first","second"] B λXC A outer s H vs Q E hr h=>?_
 .obtain⟨c,k,rfl,q⟩:=h;refine⟨_,(XQ (Zg (i:=2) zM.nd Z (Or.inl Z)<|Zr ZL (Zr Px (Zr UM (Zr UM (pv 0)<|Zr Px XO<|pv 1) XO) XO) XO)
   (XQ (Zg (i:=3) zM.nd Z (Or.inl Z)<|Zr ZL (Zr UM (Zr UM (Zr Px (pv 2)<|pv 2)<|Zr Px XO<|pv 1) XO) XO)
   (XN<|Zi<|Zr Pw (Zr ZL (Zr Px (pv 3)<|pv 3) XO) XO))),?_⟩
  refine⟨_,Z,_,Z,_,_,Z,Z,.inl ⟨uB,uB⟩,_,_,Z,Z,_,_,Z,Z,_,_,Z,Z,.inr ⟨uB,uB⟩,_,_,Z,Z,(by show(0:Int)<2147483647;decide),?_⟩;have f0:0<=((c+7919*k+1)*48271)%2147483647:=YZ _ uB
  have f1:((c+7919*k+1)*48271)%2147483647<2147483647:=YX _ uB;refine⟨_,Z,_,Z,_,_,Z,Z,.inl ⟨uE,uE⟩,_,Z,_,_,Z,Z,.inl ⟨uB,uB⟩,_,_,Z,Z,_,_,Z,Z,_,_,Z,Z,(by show(0:Int)<2147483629;decide),?_⟩;generalize ((c+7919*k+1)*48271)%2147483647=u at *;have g0:0<=(u*u+40692*k+3)%2147483629:=YZ _ uB
  have g1:(u*u+40692*k+3)%2147483629<2147483629:=YX _ uB;refine⟨_,Z,_,Z,_,_,Z,Z,.inl ⟨uE,uE⟩,_,_,Z,Z,(by show(0:Int)<2147483587;decide),_,_,Z,Z,⟨uB,uB⟩,?_⟩;generalize (u*u+40692*k+3)%2147483629=v at *;have h0:0<=(v*v)%2147483587:=YZ _ uB
  have h1:(v*v)%2147483587<2147483587:=YX _ uB;generalize (v*v)%2147483587=x at *;exact q _ J J
theorem ij{p:Int->Prop}{l:Ac}{x:Int}(h:∀z∈l,p z)(hx:p x):∀z∈l++[x],p z:=λz hz=>by
 rcases XE.mp hz with q|q
 .exact h z q
 .rw[XG.mp q];exact hx
inductive spZV(K:Ad)(vs:List V)(H:Hp)(Q:VK)(_:XK):Prop
 |mk (a:Addr) (ns:Ac) (st c:Nat) (way:Int) (_:vs=[.ref a,.int st,.int c,.int way]) (_:SqL K H a (IL ns)) (_:ns.length<=63) (_:st<=63) (_:c<=100) (_:∀l ds H',Same H H'->H l=none->H' l=some (.lst<|IL ds)->ds.length=c->(∀z∈ds,0<=z)->Q (.ref l) H')
theorem RT:FnScope ["script","start","count","way","total","folded","k","at","told"] ["script","start","count","way"] (Xt (top 78)):=WC B
theorem ig(T:Txt K mg t):Xf P w base Xo T.qZV 2 (spZV K):=by
 refine T.qZV.okI ["script","start","count","way","total","folded","k","at","told"] B λXC A outer s H vs Q E hr h=>?_
 .obtain⟨a,ns,st,c,way,rfl,hS,hn,Vb,hc,q⟩:=h;refine⟨_,(XQ (Zg (i:=4) RT.nd Z (Or.inl Z)<|Zr ZL (Zd (xX K Z) uG T.n_sum Boot.«sum»<|XY (WG Z (sc0:=Xt<|top 78) (N0:=["script","start","count","way","total","folded","k","at","told"]) (N':=["cell"]) (o:=1) (fr:=[]) ⟨Z,B,B,B,Z,B⟩ (ZQ K<|ZY (Pd K) (pv 0) (QX<|pv 1) Pq) (Zt uB) (λ_ _ _ _=>(Ze (i:=0) (show List.Nodup (["cell"]:List Str) by decide +kernel) Z<|Or.inl Z)) (λ_ _ _ _=>ZR) λ_ _ _ _=>(Zr ZL (pv 0)<|Zr Tn XO XO)) XW)<|Zr Tn XO XO)
   (XQ (Uz (i:=5) Z RT.nd Z Z (sc0:=Xt<|top 78) (N0:=["script","start","count","way","total","folded","k","at","told"]) (N':=["k"]) (o:=1) (fr:=[]) ⟨Z,B,B,B,Z,B⟩ (ZP Z T.n_range<|XY (pv 2) XW) (Zt uB) (λ_ _ _ _=>(Ze (i:=0) (show List.Nodup (["k"]:List Str) by decide +kernel) Z<|Or.inl Z)) (λ_ _ _ _=>ZR) λ_ _ _ _=>(Zr UM (Zr Px XO<|pv 0) XO))
   (XQ (Va YQ Z (Zv8 Z T.n_range<|XY (pv 1)<|XY (Zd (Zk K) uG T.n_len Boot.«len»<|XY (pv 0) XW) XW) (Ze (i:=6) RT.nd Z<|Or.inl Z)
   (XQ (Zg (i:=7) RT.nd Z (Or.inl Z)<|Zr ZL (pv 6)<|Zd (DZ Z) uG T.n_max Boot.«max»<|XY XO<|XY (pv 2) XW)
   (XN (Xx (Zh MP (pv 2) XO<|Zo _)
   (XN<|Jv (Zr ZL (Zr UM (Zr Px (ZC (Zc K) (pv 5) (pv 7) λ_ _=>rfl) XO)<|ZC (Zc K) (pv 0) (pv 6) λ_ _=>rfl)<|Zr Tn XO XO)<|Jw (pv 5) (pv 7) Jj)
   Zm))))
   (XQ (Zg (i:=8) RT.nd Z (Or.inl Z)<|ZZ XW)
   (XQ (Va YQ Z (ZP Z T.n_range<|XY (pv 2) XW) (Ze (i:=6) RT.nd Z<|Or.inl Z)
   (XN (Xx (PW.pt<|Ew (Zh SH (pv 3) XO<|Zo _)<|Ex<|Zh MP (pv 4) XO<|Zo _)
   (XQ (ZS<|UJ K YL NS NT ZU (pv 8)<|XY (Zr ZL (pv 4) XO) XW)
   (XN<|Zg (i:=4) RT.nd Z (Or.inl Z)<|Zr Pw (pv 4) XO))
   (XN<|ZS<|UJ K YL NS NT ZU (pv 8)<|XY (XA (Hi T) hr T.qZU Zs<|XY (ZC (Zc K) (pv 5) (pv 6) λ_ _=>rfl)<|XY (pv 6) XW) XW))))
   (XN<|Zi<|pv 8)))))),?_⟩
  refine⟨_,Z,_,Z,(st:Int),Z,a,IL ns,Z,hS,λl1 Ui=>?_⟩;have s1:Same H (upd H l1<|.lst<|Xe (IL ns) (some (st:Int)) none):=XZ Ui
  obtain⟨ms,hms,Nw⟩:∃ms:Ac,Xe (IL ns) (some (st:Int)) none=IL ms/\ms.length<=63:=by
   refine⟨(ns.drop<|HT.Vr (IL ns).length 0 (some (st:Int))).take (HT.Vr (IL ns).length (IL ns).length none-HT.Vr (IL ns).length 0 (some (st:Int))),?_,?_⟩
   .unfold Xe;rw[eX,qZ]
   .rw[Yn,Wt];lia
  refine⟨l1,Z,⟨_,SqL.of XS⟩,QR (K:=K) (a:=l1) (xs:=Xe (IL ns) (some (st:Int)) none) (λi ys H2=>H2=upd H l1 (.lst<|Xe (IL ns) (some (st:Int)) none)/\∃rs:Ac,ys=IL rs/\rs.length=i/\i<=ms.length) ⟨Z,[],Z,Z,Yj _⟩ (by rw[hms,XD];exact Zl J)
   (λi ys H2 _ zz=>by obtain⟨e,rs,ey,el,_⟩:=zz;exact⟨e▸SqL.of XS,by rw[ey,XD];lia⟩) ?_ ?_⟩
  .rintro i x ys H2 hi ⟨rfl,rs,rfl,el,VB⟩ uz Xk;rw[hms]at hi;obtain⟨z,rfl,hz⟩:=WQ hi;have Xn:=(Xr.mp hz).1
   refine Nz ?_;refine⟨_,Z,_,_,Z,Z,⟨uB,uB,uB⟩,_,_,Z,Z,(by show(0:Int)<10^60;decide),?_⟩;refine Xk _ _ ⟨Z,rs++[z%10^60],?_,?_,Xn⟩
   .exact(ZE _ _).symm
   .rw[Xu,el];rfl
  .rintro ys H2 ⟨rfl,rs,rfl,el,_⟩ l2 SD;have s2:=Zq (o:=.lst<|IL rs) s1 SD
   refine⟨l2,rs,Z,SqL.of XS,_,_,Z,Z,⟨uB,uB,uB⟩,_,_,Z,Z,(by show(0:Int)<10^60;decide),?_⟩;have t0:0<=rs.sum%(10:Int)^((60:Int).toNat):=YZ _ uB
   refine⟨_,Z,(c:Int),Z,J,J,xY (lo:=0) (n:=((c:Int)).toNat) (λi ys H3=>H3=upd (upd H l1<|.lst<|Xe (IL ns) (some (st:Int)) none) l2 (.lst<|IL rs)/\∃fs:Ac,ys=IL fs/\fs.length=i) ⟨Z,[],Z,Z⟩ (Zl J)
    (λi ys H3 _ zz=>by obtain⟨_,fs,e,el⟩:=zz;rw[e,XD];lia) ?_ ?_⟩
   .rintro i ys H3 hi ⟨rfl,fs,rfl,KZ⟩ uz Xk;refine Nz ?_;refine⟨_,Z,_,_,Z,Z,.inl ⟨uB,uB⟩,_,_,Z,Z,?_⟩;refine Xk _ _ ⟨Z,fs++[7*(0+(i:Int))+5],?_,?_⟩
    .exact(ZE _ _).symm
    .rw[Xu,KZ];rfl
   .rintro ys H3 ⟨rfl,fs,rfl,KZ⟩ l3 PY;have s3:=Zq (o:=.lst<|IL fs) s2 PY
    have ie:H l3=none:=s2.free PY;refine⟨_,Z,_,Z,a,_,Z,.inl<|s3.seq hS,(st:Int),((IL ns).length:Int),Z,⟨J,J,J,by rw[XD];lia⟩,?_⟩;refine Uc (lo:=(st:Int)) (n:=(((IL ns).length:Int)-(st:Int)).toNat) (λj σ H4=>∃fs v6 v7,σ=[some (.ref a),some<|.int st,some<|.int c,some<|.int way,some<|.int<|rs.sum%(10:Int)^((60:Int).toNat),some<|.ref l3,v6,v7,none]/\Same H H4/\H4 l3=some (.lst<|IL fs)/\fs.length=c)
     ⟨fs,none,none,Z,s3,XS,by rw[KZ];simp⟩ ?_ ?_
    .rintro j σ H4 hj ⟨gs,v6,v7,rfl,s4,h4,eg⟩;rw[XD]at hj;refine⟨_,Z,_,Z,_,_,Z,_,_,Z,Z,?_,?_⟩
     .show(0:Int)<if (c:Int)>1 then (c:Int) else 1
      split<;>lia
     .refine⟨_,Z,_,_,Z,Z,_,Z,?_⟩;refine Xh (λPZ=>?_) (λPZ=>?_)
      .have HZ:(if (c:Int)>1 then (c:Int) else 1)=(c:Int):=by split<;>lia
       have ic:0<=((st:Int)+(j:Int))%(c:Int):=YZ _ J;have at1:((st:Int)+(j:Int))%(c:Int)<(c:Int):=YX _ PZ
       rw[HZ];generalize vP:((st:Int)+(j:Int))%(c:Int)=at' at *;obtain⟨f,hf⟩:∃f,gs[at'.toNat]?=some f:=⟨_,Xw uE⟩;obtain⟨z,hz⟩:∃z,ns[st+j]?=some z:=⟨_,Xw J⟩;refine⟨_,Z,_,Z,l3,_,_,_,Z,Z,SqL.of h4,Zv (n:=at'.toNat) J (by rw[Yl,hf];rfl),_,_,Z,Z,.inr ⟨uB,uB⟩,_,Z,_,Z,a,_,_,_,Z,Z,s4.seq hS,Zv (n:=st+j) J (by rw[Yl,hz];rfl),_,_,Z,Z,_,_,Z,Z,⟨uB,uB,uB⟩,_,_,Z,Z,(by show(0:Int)<10^60;decide),?_⟩;refine⟨_,Z,_,Z,l3,_,_,at'.toNat,Z,Z,h4,?_,?_⟩
       .try rw[vP]
        unfold Pp;rw[if_pos ic,if_pos (by rw[XD];grind)]
       .refine⟨gs.set at'.toNat<|(f*31+z)%(10:Int)^((60:Int).toNat),_,_,Z,Zu ie s4,?_,by rwa[Tp]⟩;rw[XS,Ja]
      .exact⟨gs,_,_,Z,s4,h4,eg⟩
    .rintro σ H4 ⟨gs,v6,v7,rfl,s4,h4,eg⟩;refine⟨Yj _,λl5 Hh=>?_⟩;have RS:H l5=none:=s4.free Hh
     have Fo:l3≠l5:=Za h4 Hh;refine⟨_,Z,(c:Int),Z,J,J,Uc (lo:=0) (n:=((c:Int)).toNat) (λj σ H6=>∃TJ ds v6 v7,σ=[some (.ref a),some<|.int st,some<|.int c,some<|.int way,some<|.int TJ,some<|.ref l3,v6,v7,some (.ref l5)]/\Same H H6/\H6 l3=some (.lst<|IL gs)/\H6 l5=some (.lst<|IL ds)/\ds.length=j/\(∀z∈ds,0<=z)/\0<=TJ)
      ⟨_,[],_,_,Z,Zq s4 Hh,by rw[Zb Fo];exact h4,XS,Z,λz hz=>(by cases hz),t0⟩ ?_ ?_⟩
     .rintro j σ H6 hj ⟨TJ,ds,w6,w7,rfl,s6,KQ,Kb,zL,NA,Hg⟩;have jc:j<c:=J
      have app:∀r:Int,(upd H6 l5<|.lst<|IL ds++[.int r]) l5=some (.lst<|IL<|ds++[r]):=λr=>by rw[XS,ZE]
      have Hf:(IL ds).length<sizeLine:=by rw[XD];exact Zl J
      obtain⟨f,hf⟩:∃f,gs[j]?=some f:=⟨_,Xw J⟩;refine⟨_,Z,Z,_,Z,?_⟩;refine Xh (λhw=>?_) (λhw=>?_)
      .refine⟨_,Z,_,_,Z,Z,_,Z,?_⟩;refine Xh (λMf=>?_) (λMf=>?_)
       .refine⟨_,Z,.inl ⟨Z,_,SqL.of Kb⟩,_,Z,_,_,Z,Z,(by show(0:Int)<210;decide),l5,_,_,Z,Z,Kb,Hf,?_⟩;refine⟨_,Z,_,_,Z,Z,⟨uB,uB⟩,?_⟩;refine⟨_,ds++[TJ%210],_,_,Z,Zu RS s6,by rw[Zb Fo];exact KQ,app _,by rw[Xu,zL];rfl,ij NA<|YZ _ uB,?_⟩;lia
       .refine⟨_,Z,.inl ⟨Z,_,SqL.of Kb⟩,_,Z,_,Z,l3,_,_,_,Z,Z,SqL.of KQ,Zv (n:=j) J (by rw[Yl,hf];rfl),_,Z,_,_,Z,λr r0 r1=>?_⟩;refine⟨l5,_,_,Z,Z,Kb,Hf,?_⟩;exact⟨_,ds++[r],_,_,Z,Zu RS s6,by rw[Zb Fo];exact KQ,app _,by rw[Xu,zL];rfl,ij NA r0,Hg⟩
      .refine⟨_,Z,.inl ⟨Z,_,SqL.of Kb⟩,_,Z,_,Z,l3,_,_,_,Z,Z,SqL.of KQ,Zv (n:=j) J (by rw[Yl,hf];rfl),_,Z,_,_,Z,λr r0 r1=>?_⟩;refine⟨l5,_,_,Z,Z,Kb,Hf,?_⟩;exact⟨_,ds++[r],_,_,Z,Zu RS s6,by rw[Zb Fo];exact KQ,app _,by rw[Xu,zL];rfl,ij NA r0,Hg⟩
     .rintro σ H6 ⟨TJ,ds,w6,w7,rfl,s6,KQ,Kb,zL,NA,Hg⟩;exact⟨_,Z,q l5 ds H6 s6 RS Kb J NA⟩
theorem PairsV.good{H:Hp}{xs:List V}{ps:Aa}{v:V}{p:Int×Int}{n:Int}(h:∀p∈ps,0<=p.1/\p.1<n/\0<=p.2/\p.2<n)(hp:0<=p.1/\p.1<n/\0<=p.2/\p.2<n):∀q∈ps++[p],0<=q.1/\q.1<n/\0<=q.2/\q.2<n:=λq hq=>by
 rcases XE.mp hq with z|z
 .exact h q z
 .rw[XG.mp z];exact hp
inductive spZW(K:Ad)(vs:List V)(H:Hp)(Q:VK)(_:XK):Prop
 |mk (a ds n hang:_) (_:vs=[.ref a,.int n,.bl hang]) (_:SqL K H a (IL ds)) (_:ds.length<=100) (_:(∀z∈ds,0<=z)) (_:1<=n) (_:n<=1000) (_:∀l xs ps H',Same H H'->H l=none->H' l=some (.lst xs)->PairsV H' xs ps->ps.length=ds.length->(∀p∈ps,0<=p.1/\p.1<n/\0<=p.2/\p.2<n)->Q (.ref l) H')
theorem SQ:FnScope ["draws","places","hang","ties","k","one","other","ends","turn"] ["draws","places","hang"] (Xt (top 79)):=WC B
theorem ib(T:Txt K mg t):Xf P w base Xo T.qZW 1 (spZW K):=by
 refine T.qZW.okI ["draws","places","hang","ties","k","one","other","ends","turn"] B λXC A outer s H vs Q E hr h=>?_
 .obtain⟨a,ds,n,hang,rfl,hS,nr,NA,n1,n2,q⟩:=h;refine⟨_,(XQ (Zg (i:=3) SQ.nd Z (Or.inl Z)<|ZZ XW)
   (XQ (Va YQ Z (ZP Z T.n_range<|XY (Zd (Zk K) uG T.n_len Boot.«len»<|XY (pv 0) XW) XW) (Ze (i:=4) SQ.nd Z<|Or.inl Z)
   (XQ (Zg (i:=5) SQ.nd Z (Or.inl Z)<|Zr ZL (ZC (Zc K) (pv 0) (pv 4) λ_ _=>rfl)<|pv 1)
   (XQ (Zg (i:=6) SQ.nd Z (Or.inl Z)<|Zr ZL (Zr Pw (ZC (Zc K) (pv 0) (pv 4) λ_ _=>rfl)<|pv 1)<|pv 1)
   (XQ (Xx (PW.pt<|Ew (PD<|pv 2)<|Ex<|Zh UC (pv 4) (Zr SI (pv 1) XO)<|Zo _)
   (XQ (Zg (i:=7) SQ.nd Z (Or.inl Z)<|WN<|XY (Zr ZL (ZC (Zc K) (pv 0) (pv 4) λ_ _=>rfl)<|Zr UM (pv 4) XO)<|XY (Zr UM (pv 4) XO) XW)
   (XQ (Zg (i:=5) SQ.nd Z (Or.inl Z)<|ZC (ZK K) (pv 7) (Zr ZL (Zr Pw (ZC (Zc K) (pv 0) (pv 4) λ_ _=>rfl) XO) XO) λ_ _=>rfl)
   (XN<|Zg (i:=6) SQ.nd Z (Or.inl Z)<|ZC (ZK K) (pv 7) (Zr SI XO<|Zr ZL (Zr Pw (ZC (Zc K) (pv 0) (pv 4) λ_ _=>rfl) XO) XO) λ_ _=>rfl)))
   Zm)
   (XN<|ZS<|UJ K YL NS NT ZU (pv 3)<|XY (WN<|XY (pv 5)<|XY (pv 6) XW) XW)))))
   (XQ (Zg (i:=8) SQ.nd Z (Or.inl Z)<|Zr ZL (Zd (xX K Z) uG T.n_sum Boot.«sum»<|XY (pv 0) XW)<|Zd (DZ Z) uG T.n_max Boot.«max»<|XY XO<|XY (Zd (Zk K) uG T.n_len Boot.«len»<|XY (pv 3) XW) XW)
   (XN<|Zi<|Zr QW (ZY (Pd K) (pv 3) (QX<|pv 8) Pq)<|ZY (Pd K) (pv 3) Pq<|QX<|pv 8)))),?_⟩
  refine⟨Yj _,λl hl=>?_⟩;refine⟨_,Z,a,_,Z,.inl<|(XZ hl).seq hS,_,Z,J,by rw[XD];omega,Uc (lo:=0) (n:=((IL ds).length:Int).toNat) (λi σ H2=>∃xs ps v4 v5 v6 v7,σ=[some (.ref a),some<|.int n,some<|.bl hang,some<|.ref l,v4,v5,v6,v7,none]/\Same H H2/\H2 l=some (.lst xs)/\PairsV H2 xs ps/\ps.length=i/\∀p∈ps,0<=p.1/\p.1<n/\0<=p.2/\p.2<n)
   ⟨[],[],none,none,none,none,Z,XZ hl,XS,PairsV.nil,Z,λp hp=>(by cases hp)⟩ ?_ ?_⟩
  .rintro i σ H2 hi ⟨xs,ps,v4,v5,v6,v7,rfl,s2,h2,hP,FG,hb⟩;have QO:i<ds.length:=by rw[XD]at hi;lia
   obtain⟨d,hd⟩:∃d,ds[i]?=some d:=⟨_,Xw QO⟩;have d0:0<=d:=NA d (Xi hd)
   have iD:Wr (IL ds) (0+(i:Int))=some (.int d):=Zv (n:=i) J (UX hd);have xl:xs.length<sizeLine:=Zl (by rw[hP.1];lia)
   have put:∀x y H3 r,Same H2 H3->H3 r=none->0<=x->x<n->0<=y->y<n->∀u5 u6 u7:Option V,∃xs' g9 v4 v5 v6 v7,
     ([some (.ref a),some<|.int n,some<|.bl hang,some<|.ref l,some<|.int<|0+(i:Int),u5,u6,u7,none]:List (Option V))=[some (.ref a),some<|.int n,some<|.bl hang,some<|.ref l,v4,v5,v6,v7,none]/\
     Same H (upd (upd H3 r<|.tup [.int x,.int y]) l<|.lst<|xs++[.ref r])/\(upd (upd H3 r<|.tup [.int x,.int y]) l<|.lst<|xs++[.ref r]) l=some (.lst xs')/\PairsV (upd (upd H3 r<|.tup [.int x,.int y]) l<|.lst<|xs++[.ref r]) xs' g9/\g9.length=i+1/\∀p∈g9,0<=p.1/\p.1<n/\0<=p.2/\p.2<n:=by
    intro x y H3 r s3 hr x0 x1 y0 y1 u5 u6 u7;have h3:=s3 _ _ h2
    have s4:=Zq (o:=.tup [.int x,.int y]) s3 hr;have nlr:l≠r:=Za h3 hr
    refine⟨xs++[.ref r],ps++[(x,y)],_,_,_,_,Z,Zu hl<|s2.trans s4,XS,?_,by rw[Xu,FG];rfl,PairsV.good (H:=H) (xs:=[]) (v:=.non) hb ⟨x0,x1,y0,y1⟩⟩;have hP4:PairsV (upd H3 r<|.tup [.int x,.int y]) (xs++[.ref r]) (ps++[(x,y)]):=(hP.same s4).snoc ⟨r,Z,XS⟩
    refine⟨hP4.1,λj p e=>?_⟩;obtain⟨v,e1,tt,e2,e3⟩:=hP4.2 j p e;exact⟨v,e1,tt,e2,by rwa[Zb (MW e3 (s4 _ _ h2) (λz=>nomatch z))]⟩
   refine⟨_,Z,_,Z,a,_,_,_,Z,Z,s2.seq hS,iD,_,Z,_,_,Z,Z,(by show 0<n;lia),?_⟩;refine⟨_,Z,_,Z,a,_,_,_,Z,Z,s2.seq hS,iD,_,Z,_,_,Z,Z,⟨by show 0<n;lia,by show n<1073741824;lia⟩,_,Z,_,_,Z,Z,(by show 0<n;omega),?_⟩;have o0:0<=d%n:=YZ _ J
   have o1:d%n<n:=YX _ uD;have q0:0<=d/n%n:=YZ _ J
   have q1:d/n%n<n:=YX _ uD;refine⟨_,Z,_,Z,?_⟩;refine qY (λhh=>?_) (λhh=>?_)
   .refine⟨_,Z,_,Z,_,_,Z,Z,_,_,Z,Z,_,Z,?_⟩;refine Xh (λhk=>?_) (λhk=>?_)
    .have k1:(0:Int)<0+(i:Int)+1:=J;have r0:0<=d%(0+(i:Int)+1):=YZ _ J
     have r1:d%(0+(i:Int)+1)<0+(i:Int)+1:=YX _ k1;refine⟨_,Z,_,Z,a,_,_,_,Z,Z,s2.seq hS,iD,_,Z,_,_,Z,Z,_,_,Z,Z,k1,_,Z,_,_,Z,Z,(by show 2<=sizeLine;decide),λe he=>?_⟩;have se:=XZ (o:=.tup [.int (d%(0+(i:Int)+1)),.int (0+(i:Int)+1)]) he
     have m0:0<=d/105%2:=YZ _ uB;have m1:d/105%2<2:=YX _ uB
     obtain⟨x,hx,x0,x1⟩:∃x:Int,Wr ([.int (d%(0+(i:Int)+1)),.int (0+(i:Int)+1)]:List V) (d/105%2)=some (.int x)/\0<=x/\x<n:=by
      rcases(by lia:d/105%2=0\/d/105%2=1) with e|e
      .rw[e];exact⟨_,Z,r0,J⟩
      .rw[e];exact⟨_,Z,J,J⟩
     obtain⟨y,hy,y0,y1⟩:∃y:Int,Wr ([.int (d%(0+(i:Int)+1)),.int (0+(i:Int)+1)]:List V) (1-d/105%2)=some (.int y)/\0<=y/\y<n:=by
      rcases(by lia:d/105%2=0\/d/105%2=1) with e|e
      .rw[e];exact⟨_,Z,J,J⟩
      .rw[e];exact⟨_,Z,r0,J⟩
     have c2:Eg d 105:=⟨uB,uB⟩;refine⟨_,Z,_,Z,_,Z,a,_,_,_,Z,Z,(s2.trans se).seq hS,iD,_,_,Z,Z,c2,_,_,Z,Z,(by show(0:Int)<2;decide),e,_,_,_,Z,Z,SqT.of XS,hx,?_⟩;refine⟨_,Z,_,Z,_,Z,a,_,_,_,Z,Z,(s2.trans se).seq hS,iD,_,_,Z,Z,c2,_,_,Z,Z,(by show(0:Int)<2;decide),_,_,Z,Z,e,_,_,_,Z,Z,SqT.of XS,hy,?_⟩;refine⟨_,Z,.inl ⟨Z,_,SqL.of<|se _ _ h2⟩,_,Z,_,Z,(by show 2<=sizeLine;decide),λr hr=>?_⟩;exact⟨l,xs,_,Z,Z,(Zq se hr) _ _ h2,xl,put x y _ r se hr x0 x1 y0 y1 _ _ _⟩
    .refine⟨_,Z,.inl ⟨Z,_,SqL.of h2⟩,_,Z,_,Z,(by show 2<=sizeLine;decide),λr hr=>?_⟩;exact⟨l,xs,_,Z,Z,(XZ hr) _ _ h2,xl,put _ _ _ r (Same.refl _) hr o0 o1 q0 q1 _ _ _⟩
   .refine⟨_,Z,.inl ⟨Z,_,SqL.of h2⟩,_,Z,_,Z,(by show 2<=sizeLine;decide),λr hr=>?_⟩;exact⟨l,xs,_,Z,Z,(XZ hr) _ _ h2,xl,put _ _ _ r (Same.refl _) hr o0 o1 q0 q1 _ _ _⟩
  .rintro σ H2 ⟨xs,ps,v4,v5,v6,v7,rfl,s2,h2,hP,FG,hb⟩;have FG:ps.length=ds.length:=by rw[FG,XD];simp
   refine⟨_,Z,a,ds,Z,s2.seq hS,_,Z,l,xs,Z,.inl<|SqL.of h2,_,_,Z,_,_,Z,Z,?_,?_⟩
   .show(0:Int)<if (xs.length:Int)>1 then (xs.length:Int) else 1
    split<;>lia
   .generalize hT:ds.sum%(if (xs.length:Int)>1 then (xs.length:Int) else 1)=T0;have T1:0<=T0:=by rw[<-hT];exact YZ _ (by split<;>lia)
    have T2:T0.toNat<=xs.length:=by
     have:T0<(if (xs.length:Int)>1 then (xs.length:Int) else 1):=by rw[<-hT];exact YX _ (by split<;>lia)
     split at this<;>grind
    have e1:Xe xs (some T0) none=xs.drop T0.toNat:=qW T1 T2;have e2:Xe xs none (some T0)=xs.take T0.toNat:=qV T1 T2
    refine⟨_,rfl,_,rfl,T0,(by first|rfl|exact Xy V.int hT),l,xs,rfl,SqL.of h2,λr1 Wj=>?_⟩
    have s3:=XZ (o:=.lst<|Xe xs (some T0) none) Wj;refine⟨_,rfl,_,rfl,T0,(by first|rfl|exact Xy V.int hT),l,xs,rfl,SqL.of<|s3 _ _ h2,λr2 Wa=>?_⟩
    have s4:=Zq (o:=.lst<|Xe xs none<|some T0) s3 Wa;have n12:r1≠r2:=Za XS Wa
    refine⟨r1,r2,_,_,Z,Z,by rw[Zb n12,XS],XS,?_,λr hr=>?_⟩
    .rw[e1,e2,Wt,Yn];exact TY (by rw[hP.1];grind)
    .have s5:=Zq (o:=.lst<|Xe xs (some T0) none++Xe xs none (some T0)) s4 hr;refine q r _ (ps.drop T0.toNat++ps.take T0.toNat) _ (s2.trans s5) ((s2.trans s4).free hr) XS ?_ ?_ λp hp=>?_
     .have z:=((hP.same s5).drop T0.toNat).app ((hP.same s5).take T0.toNat);rwa[<-e1,<-e2]at z
     .rw[Xu,Wt,Yn,<-hP.1]
      have:=hP.1
      grind
     .rcases XE.mp hp with z|z
      .exact hb p (List.mem_of_mem_drop z)
      .exact hb p (Ff z)
inductive spZX(K:Ad)(vs:List V)(H:Hp)(Q:VK)(_:XK):Prop
 |mk (a ns most count:_) (_:vs=[.ref a,.int most,.int count]) (_:SqL K H a (IL ns)) (_:ns.length<=63) (_:1<=most) (_:most<=14) (_:0<=count) (_:count<=30) (_:∀r l n xs ps H',Same H H'->H' r=some (.tup [.int n,.ref l])->H l=none->H' l=some (.lst xs)->PairsV H' xs ps->Zz n ps->n<=most->(ps.length:Int)<=count->Q (.ref r) H')
theorem LQ:FnScope ["script","most","count","head","places","many","draws"] ["script","most","count"] (Xt (top 80)):=WC B
theorem g8(T:Txt K mg t):Xf P w base Xo T.qZX 3 (spZX K):=by
 refine T.qZX.okI ["script","most","count","head","places","many","draws"] B λXC A outer s H vs Q E hr h=>?_
 .obtain⟨a,ns,most,count,rfl,hS,hn,m1,m2,c1,c2,q⟩:=h;refine⟨_,(XQ (Zg (i:=3) LQ.nd Z (Or.inl Z)<|XA (ik T) hr T.qZT Zs<|XY (pv 0)<|XY XO XW)
   (XQ (Zg (i:=4) LQ.nd Z (Or.inl Z)<|Zr UM XO<|Zr ZL (pv 3)<|pv 1)
   (XQ (Zg (i:=5) LQ.nd Z (Or.inl Z)<|Zd (yi Z) uG T.n_min Boot.«min»<|XY (pv 2)<|XY (Zr UM (Zr ZL (Zr Pw (pv 3)<|pv 1)<|Zr UM (pv 2) XO)<|Zr Px (Zr ZL (Zr Pw (pv 3) XO) XO)<|pv 4) XW)
   (XQ (Zg (i:=6) LQ.nd Z (Or.inl Z)<|XA (ig T) hr T.qZV Zs<|XY (pv 0)<|XY XO<|XY (pv 5)<|XY (Zr ZL (Zr Pw (pv 3) XO) XO) XW)
   (XN<|Zi<|WN<|XY (pv 4)<|XY (XA (ib T) hr T.qZW Zs<|XY (pv 6)<|XY (pv 4)<|XY (Sn MP (Zr ZL (Zr Pw (pv 3) XO) XO) XO<|Zo _) XW) XW))))),?_⟩
  refine⟨_,Z,a,ns,0,Z,hS,uB,λhd h0 h1=>?_⟩;have n0:0<=hd%most:=YZ _ J
  have n1:hd%most<most:=YX _ J;refine⟨_,Z,_,Z,_,_,Z,Z,(by show 0<most;lia),_,_,Z,Z,?_⟩;refine⟨_,Z,_,Z,_,Z,_,_,Z,Z,⟨by show 0<most;omega,by show most<1073741824;lia⟩,_,Z,_,_,Z,Z,_,_,Z,Z,(by show 0<count+1;lia),_,Z,_,_,Z,Z,⟨uB,uB⟩,_,_,Z,Z,(by show(0:Int)<2;decide),_,Z,_,_,Z,Z,.inr ⟨by show -(2^64)<1+hd%most;lia,by show 1+hd%most<2^64;lia⟩,_,_,Z,Z,_,_,Z,?_⟩;have e0:0<=hd/most%(count+1):=YZ _ J
  have f0:0<=hd/97%2:=YZ _ uB;have g0:0<=hd/97%2*(1+hd%most):=Int.mul_nonneg f0 J
  obtain⟨c,hc⟩:∃c:Nat,(if hd/most%(count+1)+hd/97%2*(1+hd%most)<count then hd/most%(count+1)+hd/97%2*(1+hd%most) else count)=(c:Int):=
   ⟨(if hd/most%(count+1)+hd/97%2*(1+hd%most)<count then hd/most%(count+1)+hd/97%2*(1+hd%most) else count).toNat,by split<;>lia⟩
  have k1:(c:Int)<=count:=by rw[<-hc];split<;>grind
  refine⟨_,Z,_,Z,_,Z,_,_,Z,Z,⟨uB,uB⟩,_,_,Z,Z,(by show(0:Int)<2;decide),a,ns,1,c,_,Xy (λz:Int=>[V.ref a,V.int 1,V.int z,V.int (hd/194%2)]) hc,hS,hn,uB,J,λl ds H1 s1 Qf Ui zL NA=>?_⟩;refine⟨_,Z,_,Z,_,Z,_,Z,_,_,Z,Z,⟨uB,uB⟩,_,_,Z,Z,(by show(0:Int)<3;decide),_,_,Z,Z,l,ds,_,_,Z,SqL.of Ui,J,NA,(by show 1<=1+hd%most;lia),(by show 1+hd%most<=1000;lia),λl2 xs ps H2 s2 g7 g6 hP ePl hb=>?_⟩;refine⟨(by show 2<=sizeLine;decide),λr hr=>?_⟩;have s3:=XZ (o:=.tup [.int (1+hd%most),.ref l2]) hr
  exact q r l2 (1+hd%most) xs ps _ ((s1.trans s2).trans s3) XS (s1.free g7) (s3 _ _ g6) (hP.same s3) ⟨J,J,J,hb⟩ J J
inductive spZY(K:Ad)(vs:List V)(H:Hp)(Q:VK)(_:XK):Prop
 |mk (a:Addr) (ns:Ac) (c:Nat) (_:vs=[.ref a,.int c]) (_:SqL K H a (IL ns)) (_:ns.length<=63) (_:c<=30) (_:∀r l H',Same H H'->H r=none->H' r=some (.lst<|IL l)->l.length=c->Told l->Q (.ref r) H')
theorem NW:FnScope ["script","count","folded","k","told","m"] ["script","count"] (Xt (top 83)):=WC B
theorem gZ(T:Txt K mg t):Xf P w base Xo T.qZY 2 (spZY K):=by
 refine T.qZY.okI ["script","count","folded","k","told","m"] B λXC A outer s H vs Q E hr h=>?_
 .obtain⟨a,ns,c,rfl,hA,He,hc,q⟩:=h;refine⟨_,(XQ (Uz (i:=2) Z NW.nd Z Z (sc0:=Xt<|top 83) (N0:=["script","count","folded","k","told","m"]) (N':=["k"]) (o:=1) (fr:=[]) ⟨Z,B,B,B,Z,B⟩ (ZP Z T.n_range<|XY (pv 1) XW) (Zt uB) (λ_ _ _ _=>(Ze (i:=0) (show List.Nodup (["k"]:List Str) by decide +kernel) Z<|Or.inl Z)) (λ_ _ _ _=>ZR) λ_ _ _ _=>(Zr UM (Zr Px XO<|pv 0) XO))
   (XQ (Va YQ Z (ZP Z T.n_range<|XY (Zd (Zk K) uG T.n_len Boot.«len»<|XY (pv 0) XW) XW) (Ze (i:=3) NW.nd Z<|Or.inl Z)
   (XN (Xx (Zh MP (pv 1) XO<|Zo _)
   (XN<|Jv (Zr ZL (Zr UM (Zr Px (ZC (Zc K) (pv 2) (Zr ZL (pv 3)<|pv 1) λ_ _=>rfl) XO)<|ZC (Zc K) (pv 0) (pv 3) λ_ _=>rfl)<|Zr Tn XO XO)<|Jw (pv 2) (Zr ZL (pv 3)<|pv 1) Jj)
   Zm)))
   (XQ (Zg (i:=4) NW.nd Z (Or.inl Z)<|ZZ XW)
   (XQ (Va YQ Z (ZP Z T.n_range<|XY (pv 1) XW) (Ze (i:=3) NW.nd Z<|Or.inl Z)
   (XQ (Zg (i:=5) NW.nd Z (Or.inl Z)<|XA (Hi T) hr T.qZU Zs<|XY (ZC (Zc K) (pv 2) (pv 3) λ_ _=>rfl)<|XY (Zr UM XO<|pv 3) XW)
   (XN<|ZS<|UJ K YL NS NT ZU (pv 4)<|XY (ZC (Zc K) (ZZ<|XY (Zr ZL (Zr Pw (pv 5) XO) XO)<|XY (Zr SI (Zr ZL (Zr Pw (pv 5) XO) XO) XO)<|XY XO<|XY (Zr SI (Zr ZL (ZC (Zc K) (pv 2) (pv 3) λ_ _=>rfl)<|Zr Px XO<|Zr Tn XO XO)<|Zr Tn XO XO) XW) (Zr ZL (pv 5) XO) λ_ _=>rfl) XW)))
   (XN<|Zi<|pv 4))))),?_⟩
  have four:4<=sizeLine:=uB;refine⟨_,Z,(c:Int),Z,J,J,xY (lo:=0) (n:=((c:Int)).toNat) (λi ys H3=>H3=H/\∃fs:Ac,ys=IL fs/\fs.length=i) ⟨Z,[],Z,Z⟩ (Zl J) (λi ys H3 _ zz=>by obtain⟨_,fs,e,el⟩:=zz;rw[e,XD];lia) ?_ ?_⟩
  .rintro i ys H3 hi ⟨rfl,fs,rfl,KZ⟩ uz Xk;refine Nz ?_;refine⟨_,Z,_,_,Z,Z,.inl ⟨uB,uB⟩,_,_,Z,Z,?_⟩;refine Xk _ _ ⟨Z,fs++[5*(0+(i:Int))+2],?_,?_⟩
   .exact(ZE _ _).symm
   .rw[Xu,KZ];rfl
  rintro ys H3 ⟨rfl,fs,rfl,KZ⟩ l3 PY;have s3:=XZ (o:=.lst<|IL fs) PY
  refine nm ?_;refine⟨_,Z,a,_,Z,.inl<|s3.seq hA,_,Z,J,by rw[XD];omega,Uc (lo:=0) (n:=((IL ns).length:Int).toNat) (λj σ H4=>∃fs v3,σ=[some (.ref a),some<|.int c,some<|.ref l3,v3,none,none]/\Same H3 H4/\H4 l3=some (.lst<|IL fs)/\fs.length=c) ⟨fs,none,Z,s3,XS,by rw[KZ];lia⟩ ?_ ?_⟩
  .rintro j σ H4 hj ⟨gs,v3,rfl,s4,h4,eg⟩;rw[XD]at hj;refine nm ?_;dsimp only;refine⟨_,Z,_,_,Z,Z,_,Z,?_⟩;refine Xh (λPZ=>?_) λ_=>⟨gs,_,Z,s4,h4,eg⟩;have ic:0<=(0+(j:Int))%(c:Int):=YZ _ J
   have at1:(0+(j:Int))%(c:Int)<(c:Int):=YX _ PZ;generalize vP:(0+(j:Int))%(c:Int)=at' at *;obtain⟨f,hf⟩:∃f,gs[at'.toNat]?=some f:=⟨_,Xw uE⟩;obtain⟨z,hz⟩:∃z,ns[j]?=some z:=⟨_,Xw J⟩;refine⟨_,Z,_,Z,_,Z,_,_,Z,Z,PZ,l3,_,_,_,Z,Z,SqL.of h4,by rw[vP];exact Zv (n:=at'.toNat) J<|UX hf,_,_,Z,Z,.inr ⟨uB,uB⟩,_,Z,_,Z,a,_,_,_,Z,Z,s4.seq hA,Zv (n:=j) J<|UX hz,_,_,Z,Z,_,_,Z,Z,⟨uB,uB,uB⟩,_,_,Z,Z,(by show(0:Int)<10^60;decide),?_⟩;refine⟨_,Z,_,Z,_,Z,_,_,Z,Z,PZ,l3,_,_,at'.toNat,Z,Z,h4,?_,?_⟩
   .rw[vP];unfold Pp;rw[if_pos ic,if_pos (by rw[XD];grind)]
   .refine⟨gs.set at'.toNat<|(f*7+z)%(10:Int)^((60:Int).toNat),_,Z,Zu PY s4,?_,by rwa[Tp]⟩;rw[XS,Ja]
  rintro σ H4 ⟨gs,v3,rfl,s4,h4,eg⟩;refine⟨Yj _,λl5 Hh=>?_⟩;have Fo:l3≠l5:=Za h4 Hh
  have RS:H3 l5=none:=s4.free Hh;have u5:=XZ (o:=.lst []) Hh
  have s5:=s4.trans u5;have h35:=u5 _ _ h4
  have h55:(upd H4 l5<|.lst []) l5=some (.lst<|IL []):=XS;generalize upd H4 l5 (.lst [])=H5 at *;refine nm ?_;refine⟨_,Z,_,Z,J,J,Uc (lo:=0) (n:=((c:Int)).toNat) (λj σ H6=>∃L v3 v5,σ=[some (.ref a),some<|.int c,some<|.ref l3,v3,some<|.ref l5,v5]/\Same H3 H6/\H6 l3=some (.lst<|IL gs)/\H6 l5=some (.lst<|IL L)/\L.length=j/\Told L) ⟨[],v3,none,Z,s5,h35,h55,Z,λz hz=>(by cases hz)⟩ ?_ ?_⟩;rotate_left
  .rintro σ H6 ⟨L,w3,w5,rfl,s6,_,vN,hL,hT⟩;exact⟨_,Z,q l5 L H6 s6 RS vN J hT⟩
  rintro j σ H6 hj ⟨L,w3,w5,rfl,s6,gY,vN,hL,hT⟩;obtain⟨f,hf⟩:∃f,gs[j]?=some f:=⟨_,Xw uE⟩;have hfa:Wr (IL gs) (0+(j:Int))=some (.int f):=Zv (n:=j) J (UX hf)
  refine nm ?_;dsimp only;refine⟨_,Z,_,Z,l3,_,_,_,Z,Z,SqL.of gY,hfa,_,Z,_,_,Z,Z,_,_,Z,λm m0 m1=>?_⟩;refine nm ?_;have d8:0<=m/8:=J
  refine⟨_,Z,.inl ⟨Z,_,SqL.of vN⟩,_,Z,_,_,Z,Z,⟨uB,uB⟩,_,_,Z,Z,(by show(0:Int)<5;decide),_,Z,_,_,Z,Z,⟨uB,uB⟩,_,_,Z,Z,(by show(0:Int)<19;decide),_,_,Z,Z,_,Z,_,Z,l3,_,_,_,Z,Z,SqL.of gY,hfa,_,_,Z,Z,⟨uB,uB,uB⟩,_,_,Z,Z,.inl ⟨uB,uB⟩,_,_,Z,Z,(by show(0:Int)<2*10^59;decide),_,_,Z,Z,⟨uB,uB,uB⟩,_,_,Z,Z,four,λc4 FA=>?_⟩;obtain⟨x,hx,hxb⟩:∃x:Int,Wr (IL [m/8%5,m/8%19-9,1,f%(2*10^(59:Int).toNat)-10^(59:Int).toNat]) (m%4)=some (.int x)/\(-(10^60)<x/\x<(10:Int)^60):=by
   have p59:(10:Int)^(59:Int).toNat=10^59:=rfl;have e4:0<=f%(2*10^59)/\f%(2*10^59)<2*10^59:=⟨YZ _ uB,YX _ uB⟩
   rcases(by lia:m%4=0\/m%4=1\/m%4=2\/m%4=3) with e|e|e|e<;>rw[e]
   .exact⟨_,Z,uE⟩
   .exact⟨_,Z,uE⟩
   .exact⟨_,Z,J⟩
   .refine⟨_,Z,?_⟩;rw[p59];lia
  have w1:=XZ (o:=.lst<|IL [m/8%5,m/8%19-9,1,f%(2*10^(59:Int).toNat)-10^(59:Int).toNat]) FA;refine⟨_,Z,_,_,Z,Z,(by show(0:Int)<4;decide),c4,_,_,.int x,Z,Z,SqL.of XS,hx,?_⟩;refine⟨l5,_,_,Z,Z,w1 _ _ vN,Zl (by rw[XD];grind),L++[x],_,_,Z,Zu RS<|s6.trans w1,?_,by rw[XS,ZE],by rw[Xu,hL];rfl,λz hz=>(XE.mp hz).elim (hT z) λh=>by rwa[XG.mp h]⟩;rw[Zb Fo];exact w1 _ _ gY
inductive spZZ(K:Ad)(vs:List V)(H:Hp)(Q:VK)(_:XK):Prop
 |mk (n a b xs ps ls:_) (_:vs=[.int n,.ref a,.ref b]) (_:SqL K H a xs) (_:PairsV H xs ps) (_:SqL K H b (IL ls)) (_:Zz n ps) (_:ls.length=ps.length) (_:Told ls) (_:∀H':Hp,Same H H'->Q (.str<|Se n ps ls) H')
theorem Hd:FnScope ["places","ties","lengths","lines","k","words"] ["places","ties","lengths"] (Xt (top 84)):=WC B
theorem gX(T:Txt K mg t):Xf P w base Xo T.qZZ 1 (spZZ K):=by
 refine T.qZZ.okI ["places","ties","lengths","lines","k","words"] B λXC A outer s H vs Q E hr h=>?_
 .obtain⟨n,a,b,xs,ps,ls,rfl,hA,hP,hB,hG,hl,hT,q⟩:=h;refine⟨_,(XQ (Zg (i:=3) Hd.nd Z (Or.inl Z)<|ZZ<|XY (Zr ZZ6 PF<|Zj wY uG T.n_str Boot.«str»<|XY (pv 0) XW) XW)
   (XQ (Va YQ Z (ZP Z T.n_range<|XY (Zd (Zk K) uG T.n_len Boot.«len»<|XY (pv 1) XW) XW) (Ze (i:=4) Hd.nd Z<|Or.inl Z)
   (XQ (Zg (i:=5) Hd.nd Z (Or.inl Z)<|ZZ<|XY PF<|XY (Zj wY uG T.n_str Boot.«str»<|XY (ZC (ZK K) (ZC (Zc K) (pv 1) (pv 4) λ_ _=>rfl) XO λ_ _=>rfl) XW)<|XY (Zj wY uG T.n_str Boot.«str»<|XY (ZC (ZK K) (ZC (Zc K) (pv 1) (pv 4) λ_ _=>rfl) XO λ_ _=>rfl) XW) XW)
   (XN<|ZS<|UJ K YL NS NT ZU (pv 3)<|XY (UJ K Fj fX fZ (Cd K) PF<|XY (Zr QW (pv 5)<|ZZ<|XY (Zj wY uG T.n_str Boot.«str»<|XY (ZC (Zc K) (pv 2) (pv 4) λ_ _=>rfl) XW) XW) XW) XW)))
   (XN<|Zi<|UJ K Fj fX fZ (Cd K) PF<|XY (pv 3) XW))),?_⟩
  have Kj:=hP.1;have iw:=hG.2.2.1
  have AJ:=hG.1;have NJ:=hG.2.1
  have one:1<=sizeLine:=uB;have three:3<=sizeLine:=uB
  have z1:100000<=sizeLine:=uB;have nl:=OF (i:=n) (k:=60) uB J J
  refine⟨_,Z,n,Z,J,J,_,_,Z,Z,?_,one,λd hd=>?_⟩
  .show 7+(nT n).length<=_;lia
  have u1:=XZ (o:=.lst<|TL<|Wx n (ps.take 0)<|ls.take 0) hd;refine nm ?_;refine⟨_,Z,a,_,Z,.inl<|u1.seq hA,_,Z,J,J,Uc (lo:=0) (n:=(xs.length:Int).toNat) (λi σ H4=>∃v4 v5,σ=[some (.int n),some<|.ref a,some<|.ref b,some<|.ref d,v4,v5]/\Same H H4/\H4 d=some (.lst<|TL<|Wx n (ps.take i)<|ls.take i)) ⟨none,none,Z,u1,XS⟩ ?_ ?_⟩
  .rintro i σ H4 hi ⟨v4,v5,rfl,s4,h4⟩;have Wh:i<ps.length:=J
   obtain⟨v,hv⟩:∃v,xs[i]?=some v:=⟨_,Xw J⟩;obtain⟨p,hp,tt,rfl,Us⟩:=hP.at hv;obtain⟨l,Vg⟩:∃l,ls[i]?=some l:=⟨_,Xw J⟩;have Rq:=lO hG hT hp Vg
   have b1:=Rq p.1 S;have b2:=Rq p.2 S
   have b3:=Rq l S;refine nm ?_;dsimp only;have ia:Wr xs (0+(i:Int))=some (.ref tt):=Zv (n:=i) J hv
   refine⟨_,Z,_,Z,a,_,_,.ref tt,Z,Z,s4.seq hA,ia,tt,_,0,.int p.1,Z,Z,SqT.of<|s4 _ _ Us,Z,p.1,Z,J,J,_,Z,_,Z,a,_,_,.ref tt,Z,Z,s4.seq hA,ia,tt,_,1,.int p.2,Z,Z,SqT.of<|s4 _ _ Us,Z,p.2,Z,J,J,three,λc hc=>?_⟩;have u2:=XZ (o:=.lst<|TL [Str.ofString "tie",nT p.1,nT p.2]) hc
   have s5:=s4.trans u2;have h5:=u2 _ _ h4
   have hc5:(upd H4 c<|.lst<|TL [Str.ofString "tie",nT p.1,nT p.2]) c=some (.lst<|TL [Str.ofString "tie",nT p.1,nT p.2]):=XS;refine nm ?_;dsimp only;change Et _ _ _ (upd H4 c<|.lst<|TL [Str.ofString "tie",nT p.1,nT p.2]);generalize upd H4 c (.lst<|TL [Str.ofString "tie",nT p.1,nT p.2])=H5 at *;refine⟨_,Z,.inl ⟨Z,_,SqL.of h5⟩,Z,_,Z,_,Z,_,Z,b,_,_,.int l,Z,Z,s5.seq hB,Zv (n:=i) J<|UX Vg,l,Z,J,J,one,λc2 Wc=>?_⟩;have u3:=XZ (o:=.lst<|TL [nT l]) Wc
   refine⟨c,c2,_,TL [nT l],Z,Z,u3 _ _ hc5,XS,(show 3+1<=sizeLine by decide),λc3 hc3=>?_⟩;have u4:=XZ (o:=.lst<|TL [Str.ofString "tie",nT p.1,nT p.2]++TL [nT l]) hc3
   have u34:=u3.trans u4;have wl:(Wx n (ps.take i)<|ls.take i).length<=31:=by rw[lP (by rw[Yn,Yn];lia),Yn];grind
   refine⟨_,c3,[Str.ofString "tie",nT p.1,nT p.2,nT l],Z,Z,SqL.of XS,?_,?_⟩
   .show JoinOk Qd _=true;rw[OD];refine b8 (uw:=61) (λa ha=>?_) (by show 4*61+4<=_;decide);rcases Yg.mp ha with e|e
    .rw[e];decide
    .exact lT Rq a e
   refine⟨d,_,_,Z,Z,u34 _ _ h5,Zl (by rw[FO];lia),_,_,Z,Zu hd<|s5.trans u34,?_⟩;rw[XS];show some (HO.lst<|TL (Wx n (ps.take i)<|ls.take i)++[.str (VA p l)])=_
   rw[lR,lQ hp Vg]
  rintro σ H4 ⟨v4,v5,rfl,s4,h4⟩;rw[show(xs.length:Int).toNat=ps.length by lia,YD,<-hl,YD]at h4;refine⟨Z,_,Z,_,d,_,Z,Z,SqL.of h4,?_,q H4 s4⟩;show JoinOk BW _=true
  rw[Im];exact b8 (uw:=400) (bZ hG hT) (by rw[lP hl];lia)
inductive spZ01(K:Ad)(vs:List V)(H:Hp)(Q:VK)(_:XK):Prop
 |mk (n:Int) (a b:Addr) (xs:List V) (ps:Aa) (kd:Bool) (ns:Ac) (_:vs=[.int n,.ref a,.ref b]) (_:SqL K H a xs) (_:PairsV H xs ps) (_:Zz n ps) (_:SqK kd K H b (IL ns)) (_:(∀z∈ns,0<=z/\z<(ps.length:Int))) (_:∀(m:Addr)(H':Hp),Same H H'->H m=none->H' m=some (.lst<|IL<|Xb n.toNat<|XR ps ns)->Q (.ref m) H')
theorem UN:FnScope ["places","ties","some","marks","tie","one","other","gone","kept","place"] ["places","ties","some"] (Xt (top 81)):=WC B
theorem gW(T:Txt K mg t):Xf P w base Xo T.qZ01 1 (spZ01 K):=by
 refine T.qZ01.okI ["places","ties","some","marks","tie","one","other","gone","kept","place"] B λXC A outer s H vs Q E hr h=>?_
 .obtain⟨n,a,b,xs,ps,kd,ns,rfl,hA,h3,⟨g1,g2,g3,g4⟩,hS,hI,q⟩:=h;refine⟨_,(XQ (Zg (i:=3) UN.nd Z (Or.inl Z)<|Zj (x6 Z) uG T.n_list Boot.«list»<|XY (Zj Dz uG T.n_range Boot.«range»<|XY (pv 0) XW) XW)
   (XQ (Va YQ Z (Ny K<|pv 2) (Ze (i:=4) UN.nd Z<|Or.inl Z)
   (XQ (Jv (ZC (Zc K) (pv 1) (pv 4) λ_ _=>rfl)<|Qj (n:=2) K Z<|Zw (Ze (i:=5) UN.nd Z<|Or.inl Z)<|Zw (Ze (i:=6) UN.nd Z<|Or.inl Z) Qo)
   (XN (Xx (Zh Ub (ZC (Zc K) (pv 3) (pv 5) λ_ _=>rfl) (ZC (Zc K) (pv 3) (pv 6) λ_ _=>rfl)<|Zo _)
   (XQ (Zg (i:=7) UN.nd Z (Or.inl Z)<|ZC (Zc K) (pv 3) (pv 6) λ_ _=>rfl)
   (XQ (Zg (i:=8) UN.nd Z (Or.inl Z)<|ZC (Zc K) (pv 3) (pv 5) λ_ _=>rfl)
   (XN (Va YQ Z (ZP Z T.n_range<|XY (pv 0) XW) (Ze (i:=9) UN.nd Z<|Or.inl Z)
   (XN (Xx (Zh SH (ZC (Zc K) (pv 3) (pv 9) λ_ _=>rfl) (pv 7)<|Zo _)
   (XN<|Jv (pv 8)<|Jw (pv 3) (pv 9) Jj)
   Zm))))))
   Zm))))
   (XN<|Zi<|pv 3))),?_⟩
  refine⟨_,Z,n,Z,λr Vu=>⟨r,0,n,Z,XS,⟨uB,uB,uD,uD⟩,uD,λm hm=>?_⟩⟩;have sm:Same H (upd (upd H r<|.rng 0 n) m<|.lst<|(WT 0 n).map V.int):=Zq (XZ Vu) hm
  have Ts:H m=none:=(XZ Vu).free hm;refine⟨_,Z,b,Z,Du (k:=kd) (K:=K) (a:=b) (xs:=IL ns) (λi σ H2=>∃(v4 v5 v6 v7 v8 v9:Option V),σ=[some (.int n),some<|.ref a,some<|.ref b,some<|.ref m,v4,v5,v6,v7,v8,v9]/\Same H H2/\H2 m=some (.lst<|IL<|Xb n.toNat<|XR ps<|ns.take i))
   ⟨none,none,none,none,none,none,Z,sm,?_⟩ (λi σ H2 _ zz=>by obtain⟨_,_,_,_,_,_,_,s2,_⟩:=zz;exact hS.same s2) ?_ ?_⟩
  .rw[XS,qJ];rfl
  .rintro i x σ H2 hi ⟨v4,v5,v6,v7,v8,v9,rfl,s2,Wz⟩;obtain⟨z,rfl,hz⟩:=WQ hi;obtain⟨z0,z1⟩:=hI z (Xi hz);obtain⟨p,hp⟩:∃p,ps[z.toNat]?=some p:=⟨_,Xw uD⟩;obtain⟨v,hv,tt,rfl,Us⟩:=h3.2 z.toNat p hp;obtain⟨e1,e2,e3,e4⟩:=g4 p (Xi hp);have ed:ps.getD z.toNat (0,0)=p:=ZW hp
   refine⟨_,Z,_,Z,a,xs,z,.ref tt,Z,Z,s2.seq hA,Zv (n:=z.toNat) uD hv,tt,_,Z,SqT.of<|s2 _ _ Us,Z,_,_,Z,_,_,Z,Z,?_⟩;have hl:(Xb n.toNat<|XR ps<|ns.take i).length=n.toNat:=ZB _ _
   generalize hM:Xb n.toNat (XR ps<|ns.take i)=M at *;have ha:M[p.1.toNat]?=some (mk M p.1.toNat):=Si uD
   have hb:M[p.2.toNat]?=some (mk M p.2.toNat):=Si uD;have iA:Wr (IL M) p.1=some (.int<|mk M p.1.toNat):=Zv (n:=p.1.toNat) uD (by rw[Yl,ha];rfl)
   have iB:Wr (IL M) p.2=some (.int<|mk M p.2.toNat):=Zv (n:=p.2.toNat) uD (by rw[Yl,hb];rfl);have step:Xb n.toNat (XR ps<|ns.take<|i+1)=lm M p.1.toNat p.2.toNat:=by rw[eQ hz,Nx,hM,ed]
   refine⟨_,Z,_,Z,m,_,p.1,_,Z,Z,SqL.of Wz,iA,_,Z,_,Z,m,_,p.2,_,Z,Z,SqL.of Wz,iB,Z,_,Z,?_⟩;rw[Zy];refine WK (λhc=>?_) (λhc=>?_)
   .refine⟨_,_,_,_,_,_,Z,s2,?_⟩;rw[Wz,step];unfold lm;rw[if_neg (by simpa using hc)]
   .refine⟨_,Z,_,Z,m,_,p.2,_,Z,Z,SqL.of Wz,iB,?_⟩;refine⟨_,Z,_,Z,m,_,p.1,_,Z,Z,SqL.of Wz,iA,?_⟩;refine⟨_,Z,n,Z,uD,uD,Uc (lo:=0) (n:=n.toNat) (λj σ H3=>∃(v4 v5 v6 v9:Option V),σ=[some (.int n),some<|.ref a,some<|.ref b,some<|.ref m,v4,v5,v6,some<|.int<|mk M p.2.toNat,some<|.int<|mk M p.1.toNat,v9]/\Same H H3/\
      H3 m=some (.lst<|IL<|(M.take j).map (λk=>if k=mk M p.2.toNat then mk M p.1.toNat else k)++M.drop j)) ⟨_,_,_,_,Z,s2,by rw[Wz];rfl⟩ ?_ ?_⟩
    .rintro j σ H3 hj ⟨w4,w5,w6,w9,rfl,s3,Ot⟩;have vM:M[j]?=some (mk M j):=Si uD
     have Xn:((M.take j).map λk=>if k=mk M p.2.toNat then mk M p.1.toNat else k).length=j:=by rw[Yb,Yn];omega
     have hjv:((M.take j).map (λk=>if k=mk M p.2.toNat then mk M p.1.toNat else k)++M.drop j)[j]?=some (mk M j):=by rwa[Yo uD,Xn,Fd,Ve,Nat.add_zero]
     have ezj:(0:Int)+(j:Int)=(j:Int):=Lz _;have iJ:Wr (IL<|(M.take j).map (λk=>if k=mk M p.2.toNat then mk M p.1.toNat else k)++M.drop j) (0+(j:Int))=some (.int<|mk M j):=Zv (n:=j) ezj (by rw[Yl,hjv];rfl)
     have dj:M.drop j=mk M j::M.drop (j+1):=by
      rw[JM uD];congr 1
      have:=vM
      rw[Xw uD]at this;exact Ye this
     refine⟨_,Z,_,Z,m,_,_,_,Z,Z,SqL.of Ot,iJ,_,Z,Z,_,Z,?_⟩;rw[Zy];refine Xh (λhe=>?_) (λhe=>?_)
     .refine⟨_,Z,_,Z,_,Z,m,_,_,j,Z,Z,Ot,?_,?_⟩
      .unfold Pp;rw[if_pos uD,if_pos (by rw[XD,Xu,Xn,Wt];omega)];simp
      .refine⟨_,_,_,_,Z,Zu Ts s3,?_⟩;rw[XS,YJ,vM];congr 2;rw[<-Ja,List.set_append_right _ _ (by rw[Xn];exact XJ _),Xn,Ve,dj,YG,List.set_cons_zero,Wd];show IL (_++_::_)=IL (_++((if mk M j=mk M p.2.toNat then mk M p.1.toNat else mk M j)::_))
       rw[if_pos he];rfl
     .refine⟨_,_,_,_,Z,s3,?_⟩;rw[Ot,YJ,vM,dj];congr 2;rw[YG,Wd];show IL (_++_::_)=IL (_++((if mk M j=mk M p.2.toNat then mk M p.1.toNat else mk M j)::_))
      rw[if_neg he];rfl
    .rintro σ H3 ⟨w4,w5,w6,w9,rfl,s3,Ot⟩;refine⟨_,_,_,_,_,_,Z,s3,?_⟩;rw[Ot,step];unfold lm;rw[if_pos hc,YO uD,LL uD,YI]
  .rintro σ H2 ⟨v4,v5,v6,v7,v8,v9,rfl,s2,Wz⟩;rw[XD,YD]at Wz;exact⟨_,Z,q m H2 s2 Ts Wz⟩
inductive spZ11(K:Ad)(vs:List V)(H:Hp)(Q:VK)(_:XK):Prop
 |mk (n:Int) (a:Addr) (c:Int) (xs:List V) (ps:Aa) (_:vs=[.int n,.ref a,.int c]) (_:SqL K H a xs) (_:PairsV H xs ps) (_:Zz n ps) (_:CS n ps) (_:∀(r:Addr)(ms:Ac)(H':Hp),Same H H'->H' r=some (.tup<|IL ms)->Zf n ps ms->Q (.ref r) H')
theorem Vt:FnScope ["places","ties","cell","left","some","marks","k","tie","one","other"] ["places","ties","cell"] (Xt (top 82)):=WC B
theorem gV(T:Txt K mg t):Xf P w base Xo T.qZ11 2 (spZ11 K):=by
 refine T.qZ11.okI ["places","ties","cell","left","some","marks","k","tie","one","other"] B λXC A outer s H vs Q E hr h=>?_
 .obtain⟨n,a,c,xs,ps,rfl,hA,hP,hG,hJ,q2⟩:=h;refine⟨_,(XQ (Zg (i:=3) Vt.nd Z (Or.inl Z)<|Zj (x6 Z) uG T.n_list Boot.«list»<|XY (Zj Dz uG T.n_range Boot.«range»<|XY (Zd (Zk K) uG T.n_len Boot.«len»<|XY (pv 1) XW) XW) XW)
   (XQ (Zg (i:=4) Vt.nd Z (Or.inl Z)<|ZZ XW)
   (XQ (Zg (i:=5) Vt.nd Z (Or.inl Z)<|Zj (x6 Z) uG T.n_list Boot.«list»<|XY (Zj Dz uG T.n_range Boot.«range»<|XY (pv 0) XW) XW)
   (XQ (Va YQ Z (ZP Z T.n_range<|XY (Zd (Zk K) uG T.n_len Boot.«len»<|XY (pv 1) XW) XW) (Ze (i:=6) Vt.nd Z<|Or.inl Z)
   (XQ (Zg (i:=7) Vt.nd Z (Or.inl Z)<|UJ K YL fW fY DK (pv 3)<|XY (Zr ZL (XA (Hi T) hr T.qZU Zs<|XY (pv 2)<|XY (Zr UM XO<|pv 6) XW)<|Zd (Zk K) uG T.n_len Boot.«len»<|XY (pv 3) XW) XW)
   (XQ (Jv (ZC (Zc K) (pv 1) (pv 7) λ_ _=>rfl)<|Qj (n:=2) K Z<|Zw (Ze (i:=8) Vt.nd Z<|Or.inl Z)<|Zw (Ze (i:=9) Vt.nd Z<|Or.inl Z) Qo)
   (XN (Xx (Zh Ub (ZC (Zc K) (pv 5) (pv 8) λ_ _=>rfl) (ZC (Zc K) (pv 5) (pv 9) λ_ _=>rfl)<|Zo _)
   (XQ (ZS<|UJ K YL NS NT ZU (pv 4)<|XY (pv 7) XW)
   (XN<|Zg (i:=5) Vt.nd Z (Or.inl Z)<|XA (gW T) hr T.qZ01 Zs<|XY (pv 0)<|XY (pv 1)<|XY (pv 4) XW))
   Zm)))))
   (XQ (Xx (Zh MP (Zd Zm4 uG T.n_len Boot.«len»<|XY (Zj (Zc9 K Z) uG T.n_set Boot.«set»<|XY (pv 5) XW) XW) XO<|Zo _)
   (XN<|Zi Qp)
   Zm)
   (XN<|Zi<|Zj (ZF K) uG T.n_tuple Boot.«tuple»<|XY (Zd (xN K) uG T.n_sorted Boot.«sorted»<|XY (pv 4) XW) XW)))))),?_⟩
  obtain⟨g1,g2,g3,g4⟩:=id hG;have hl:=hP.1
  refine⟨_,Z,a,xs,Z,.inl hA,_,Z,λr3 TM=>⟨r3,0,_,Z,XS,⟨uB,uB,uD,uD⟩,uD,λlf hlf=>?_⟩⟩;have s1:=Zq (o:=.lst<|(WT 0 (xs.length:Int)).map V.int) (XZ (o:=.rng 0 (xs.length:Int)) TM) hlf
  have gU:H lf=none:=(XZ TM).free hlf;refine⟨Yj _,λsm Mh=>?_⟩;have s2:=Zq (o:=.lst []) s1 Mh
  have gT:H sm=none:=s1.free Mh;have n1:lf≠sm:=Za XS Mh
  refine⟨_,Z,n,Z,λr4 Qb=>⟨r4,0,n,Z,XS,⟨uB,uB,uD,uD⟩,uD,λm hm=>?_⟩⟩;have t3:=Zq (o:=.lst<|(WT 0 n).map V.int) (XZ (o:=.rng 0 n) Qb) hm
  have s3:=s2.trans t3;have gS:=t3 _ _ (XZ (o:=.lst []) Mh _ _<|XS (a:=lf) (o:=.lst<|(WT 0 (xs.length:Int)).map V.int))
  have gR:=t3 _ _ (XS (a:=sm) (o:=.lst []));have n2:m≠lf:=XI (Za ((XZ (o:=.rng 0 n) Qb) _ _<|XZ (o:=.lst []) Mh _ _<|XS (a:=lf) (o:=.lst<|(WT 0 (xs.length:Int)).map V.int)) hm)
  have n3:m≠sm:=XI (Za ((XZ (o:=.rng 0 n) Qb) _ _<|XS (a:=sm) (o:=.lst [])) hm);have zK:∀z∈WT 0 (xs.length:Int),0<=z/\z<(ps.length:Int):=λz hz=>by
   unfold WT at hz;obtain⟨j,hj,rfl⟩:=Yz.mp hz
   have:=YK.mp hj
   omega
  have TR:(WT 0 (xs.length:Int)).Nodup:=(ZW8 xs.length).nodup;refine⟨_,Z,a,_,Z,.inl<|s3.seq hA,_,Z,uD,uD,Uc (lo:=0) (n:=(xs.length:Int).toNat) (λi σ H2=>∃(sl ll:Ac)(mA:Addr)(v6 v7 v8 v9:Option V),σ=[some (.int n),some<|.ref a,some<|.int c,some<|.ref lf,some<|.ref sm,some<|.ref mA,v6,v7,v8,v9]/\Same H H2/\mA≠lf/\mA≠sm/\
    H2 lf=some (.lst<|IL ll)/\H2 sm=some (.lst<|IL sl)/\H2 mA=some (.lst<|IL<|Xb n.toNat<|XR ps sl)/\(sl++ll).Nodup/\(∀z∈sl++ll,0<=z/\z<(ps.length:Int))/\ll.length+i=ps.length/\sl.length+cnt (Xb n.toNat<|XR ps sl)=n.toNat/\∀z,0<=z->z<(ps.length:Int)->z∉ll->Conn (XR ps sl) (ps.getD z.toNat (0,0)).1.toNat (ps.getD z.toNat (0,0)).2.toNat)
   ⟨[],WT 0 (xs.length:Int),m,none,none,none,none,Z,s3,n2,n3,gS,gR,?_,TR,zK,?_,?_,λz z0 z1 no=>absurd (by unfold WT;exact Yz.mpr ⟨z.toNat,YK.mpr uD,uD⟩) no⟩ ?_ ?_⟩
  .rw[XS,qJ];rfl
  .rw[rp];omega
  .show 0+cnt ((List.range n.toNat).map λ(i:Nat)=>(i:Int))=n.toNat;rw[qt];omega
  .rintro i σ H2 hi ⟨sl,ll,mA,v6,v7,v8,v9,rfl,s4,n4,n5,LP,Hc,Fq,nd,hb,Vg,Ih,vL⟩;have QO:i<ps.length:=uD
   have Vz:(0:Int)<(ll.length:Int):=uD;refine⟨_,Z,.inl ⟨Z,_,SqL.of LP⟩,_,Z,_,Z,_,_,Z,Z,_,_,Z,λu u0 u1=>?_⟩;have x0:0<=u%(ll.length:Int):=YZ _ uD
   have x1:u%(ll.length:Int)<(ll.length:Int):=YX _ Vz;obtain⟨z,hz⟩:∃z,ll[(u%(ll.length:Int)).toNat]?=some z:=⟨_,Xw uD⟩;refine⟨_,Z,lf,_,Z,.inl<|SqL.of LP,_,_,Z,Z,(by rwa[XD]),lf,_,_,(u%(ll.length:Int)).toNat,.int z,Z,Z,LP,?_,?_,?_,UX hz,?_⟩
   .rw[XD];show -(2^63)<=u%(ll.length:Int);omega
   .rw[XD];show u%(ll.length:Int)<2^63;omega
   .rw[XD];exact Sg x0 x1
   rw[eh];have pm:=ZG8 (sl:=sl) hz
   have nd':((sl++[z])++ll.eraseIdx (u%(ll.length:Int)).toNat).Nodup:=pm.nodup_iff.mpr nd;have TZ:∀y∈(sl++[z])++ll.eraseIdx (u%(ll.length:Int)).toNat,0<=y/\y<(ps.length:Int):=λy hy=>hb y (pm.mem_iff.mp hy)
   have nd2:(sl++ll.eraseIdx (u%(ll.length:Int)).toNat).Nodup:=nd'.sublist (List.Sublist.append (gu _ _)<|List.Sublist.refl _);have Ta:∀y∈sl++ll.eraseIdx (u%(ll.length:Int)).toNat,0<=y/\y<(ps.length:Int):=λy hy=>TZ y (by
    rcases XE.mp hy with q|q
    .exact Yd _ (Yd _ q)
    .exact Yi _ q)
   have gQ:(ll.eraseIdx (u%(ll.length:Int)).toNat).length+(i+1)=ps.length:=by rw[JN uD];omega
   generalize ll.eraseIdx (u%(ll.length:Int)).toNat=lr at *;obtain⟨z0,z1⟩:=hb z (Yi _<|Xi hz);have s5:=Zu (o:=.lst<|IL lr) gU s4
   have Hb:(upd H2 lf<|.lst<|IL lr) sm=some (.lst<|IL sl):=by rwa[Zb (XI n1)]
   have Ha:(upd H2 lf<|.lst<|IL lr) mA=some (.lst<|IL<|Xb n.toNat<|XR ps sl):=by rwa[Zb n4]
   have zJ:(upd H2 lf<|.lst<|IL lr) lf=some (.lst<|IL lr):=XS;generalize upd H2 lf (.lst<|IL lr)=H5 at *;obtain⟨p,hp⟩:∃p,ps[z.toNat]?=some p:=⟨_,Xw uD⟩;obtain⟨v,hv,tt,rfl,Us⟩:=(hP.same s5).2 z.toNat p hp;obtain⟨e1,e2,e3,e4⟩:=g4 p (Xi hp);have ed:ps.getD z.toNat (0,0)=p:=ZW hp
   refine⟨_,Z,_,Z,a,xs,z,.ref tt,Z,Z,s5.seq hA,Zv (n:=z.toNat) uD hv,tt,_,Z,SqT.of Us,Z,_,_,Z,_,_,Z,Z,?_⟩;have jX:(Xb n.toNat<|XR ps sl).length=n.toNat:=ZB _ _
   have step:Xb n.toNat (XR ps<|sl++[z])=lm (Xb n.toNat<|XR ps sl) p.1.toNat p.2.toNat:=by rw[show XR ps (sl++[z])=XR ps sl++[(p.1.toNat,p.2.toNat)] by unfold XR;rw[YG];show _++[((ps.getD z.toNat (0,0)).1.toNat,(ps.getD z.toNat (0,0)).2.toNat)]=_;rw[ed],Nx]
   have AB:∀y∈ll,y=z\/y∈lr:=λy hy=>by
    rcases XE.mp (pm.mem_iff.mpr<|Yi sl hy) with q|q
    .rcases XE.mp q with q|q
     .exact absurd Z ((YM.mp nd).2.2 y q y hy)
     .exact .inl (XG.mp q)
    .exact .inr q
   have WE:=ZO hG λy hy=>hb y (Yd ll hy);generalize hM:Xb n.toNat (XR ps sl)=M at *;have Gd:M[p.1.toNat]?=some (mk M p.1.toNat):=Si uD
   have gP:M[p.2.toNat]?=some (mk M p.2.toNat):=Si uD;refine⟨_,Z,_,Z,mA,_,p.1,_,Z,Z,SqL.of Ha,Zv (n:=p.1.toNat) uD<|UX Gd,_,Z,_,Z,mA,_,p.2,_,Z,Z,SqL.of Ha,Zv (n:=p.2.toNat) uD<|UX gP,Z,_,Z,?_⟩;rw[Zy];refine WK (λhc=>?_) (λhc=>?_)
   .exact⟨sl,lr,mA,_,_,_,_,Z,s5,n4,n5,zJ,Hb,by rw[hM];exact Ha,nd2,Ta,uD,by rw[hM];exact Ih,λy y0 y1 no=>by
     by_cases e:y=z
     .rw[e,ed];exact(ZV WE uD uD).mp (by rwa[hM])
     .exact vL y y0 y1 λh=>(AB y h).elim e no⟩
   .have sll:sl.length<=30:=uD;refine⟨_,Z,.inl ⟨Z,_,SqL.of Hb⟩,_,Z,sm,_,_,Z,Z,Hb,Zl (by rw[XD];omega),?_⟩;rw[<-ZE];have s6:=Zu (o:=.lst<|IL<|sl++[z]) gT s5
    have zH:(upd H5 sm<|.lst<|IL<|sl++[z]) lf=some (.lst<|IL lr):=by rwa[Zb n1]
    have GZ:(upd H5 sm<|.lst<|IL<|sl++[z]) sm=some (.lst<|IL<|sl++[z]):=XS;generalize upd H5 sm (.lst<|IL<|sl++[z])=H6 at *;refine⟨_,Z,_,Z,_,Z,n,a,sm,xs,ps,false,sl++[z],Z,s6.seq hA,hP.same s6,hG,SqL.of GZ,λy hy=>TZ y<|Yd _ hy,λm' H7 s7 Ts Fz=>?_⟩;refine⟨sl++[z],lr,m',_,_,_,_,Z,s6.trans s7,XI<|Za zH Ts,XI<|Za GZ Ts,s7 _ _ zH,s7 _ _ GZ,Fz,nd',TZ,uD,?_,λy y0 y1 no=>by
     by_cases e:y=z
     .exact .edge (Yz.mpr ⟨z,Yi _<|List.mem_singleton_self _,by rw[e]⟩)
     .exact(vL y y0 y1 λh=>(AB y h).elim e no).mono (ZN λx hx=>Yd _ hx)⟩
    have cs:=xJ (m:=M) (a:=p.1.toNat) (b:=p.2.toNat) uD uD hc;rw[step,Xu,Yu];omega
  .rintro σ H2 ⟨sl,ll,mA,v6,v7,v8,v9,rfl,s4,n4,n5,LP,Hc,Fq,nd,hb,Vg,Ih,vL⟩;have jX:(Xb n.toNat<|XR ps sl).length=n.toNat:=ZB _ _
   have hbs:∀z∈sl,0<=z/\z<(ps.length:Int):=λz hz=>hb z (Yd _ hz);have WE:=ZO hG hbs
   have hsn:=Zm8 uD WE;have zE:=KY (M:=Xb n.toNat<|XR ps sl) uD
   rw[xI WE]at zE;have UB:=qq (L:=Xb n.toNat<|XR ps sl) uD
   have sl1:(L2.seen<|Xb n.toNat<|XR ps sl).length<=(Xb n.toNat<|XR ps sl).length:=PyProof.Rows.firstMet_length_le _ _;refine⟨_,Z,mA,Xb n.toNat<|XR ps sl,Z,SqL.of Fq,(by show(Xb n.toNat<|XR ps sl).length+1<4096;omega),λst Vb=>?_⟩;have s5:=XZ (o:=.set (λk=>(L2.seen<|Xb n.toNat<|XR ps sl).any (· == k)) (L2.seen<|Xb n.toNat<|XR ps sl).length) Vb
   refine⟨st,_,_,Z,XS,uD,_,_,Z,Z,_,Z,?_⟩;refine Xh (λhc=>?_) (λhc=>?_)
   .exact absurd (hsn.mpr λi j hi hj=>Conn.lift (λe he=>by obtain⟨z,hz,rfl⟩:=Yz.mp he;obtain⟨z0,z1⟩:=Xq.mp hz;exact vL z z0 z1<|by rw[YY.mp (show ll.length=0 by omega)];simp)<|hJ i j hi hj) uD
   .have zD:=hsn.mp uD;have Fx:=zE.mpr zD
    have sll:(sl.length:Int)=n-1:=uD;refine⟨_,Z,sm,sl,Z,SqL.of<|s5 _ _ Hc,uD,λms Vh OW l Rc=>?_⟩;have s6:=Zq (o:=.lst<|ms.map V.int) s5 Rc
    refine⟨l,IL ms,Z,.inl ⟨SqL.of XS,λtp Mf=>?_⟩⟩;have s7:=Zq (o:=.tup<|IL ms) s6 Mf
    have qc:ms.Nodup:=Vh.nodup_iff.mpr (YM.mp nd).1;refine q2 tp ms _ (s4.trans s7) XS ⟨XX.mpr ⟨λz hz=>hbs z<|Vh.mem_iff.mp hz,?_⟩,by rw[Vh.length_eq];exact sll,λi j hi hj=>(TX λz=>Vh.mem_iff).mpr (zD i j hi hj)⟩;exact(fV.mpr ⟨OW,qc⟩).imp λ{x y} h=>by have:=h.1;have:=h.2;omega
inductive spZ21(K:Ad)(C:Addr)(vs:List V)(H:Hp)(Q:VK)(_:XK):Prop
 |mk (w a:Addr) (n:Int) (ps:Aa) (U:Ac) (_:vs=[.ref w,.ref a,.int ps.length]) (_:WebAt C H w n ps) (_:Zz n ps) (_:SqT K H a (IL U)) (_:Zf n ps U) (_:∀(r:Nat)(H':Hp),Rk n ps U r->Same H H'->Q (.int r) H')
theorem SO:FnScope ["web","tree","count","told","inside","outside","tie"] ["web","tree","count"] (Xt (top 85)):=WC B
theorem gO(T:Txt K mg t):Xf P w base Xo T.qZ21 10 (spZ21 K t.A_Web):=by
 refine T.qZ21.okI ["web","tree","count","told","inside","outside","tie"] B λXC A outer s H vs Q E hr h=>?_
 .obtain⟨w,a,n,ps,U,rfl,hW,hG,hA,hT,q⟩:=h;refine⟨_,(XQ (Zg (i:=3) SO.nd Z (Or.inl Z) XO)
   (XQ (Zg (i:=4) SO.nd Z (Or.inl Z)<|ZZ XW)
   (XQ (Zg (i:=5) SO.nd Z (Or.inl Z)<|ZZ XW)
   (XQ (Va YQ Z (ZP Z T.n_range<|XY (pv 2) XW) (Ze (i:=6) SO.nd Z<|Or.inl Z)
   (XN (Xx (Zh (Dq K) (pv 6) (pv 1) Z)
   (XN<|ZS<|UJ K YL NS NT ZU (pv 4)<|XY (pv 6) XW)
   (XQ (Zg (i:=3) SO.nd Z (Or.inl Z)<|Zr UM (pv 3)<|XA (HI T) hr T.qZn Zs<|XY (pv 0)<|XY (Zr QW (pv 4)<|ZZ<|XY (pv 6) XW)<|XY (pv 5) XW)
   (XN<|ZS<|UJ K YL NS NT ZU (pv 5)<|XY (pv 6) XW)))))
   (XN<|Zi<|pv 3))))),?_⟩
  obtain⟨g1,g2,g3,g4⟩:=id hG;have one:1<=sizeLine:=uB
  have big:1000<=sizeLine:=uB;obtain⟨ua,up⟩:=XX.mp hT.1;refine ml ?_;refine⟨Yj _,λiA Au=>?_⟩;refine nm ?_;refine⟨Yj _,λoA Fy=>?_⟩;refine nm ?_;have XH:iA≠oA:=λe=>by subst e;rw[XS]at Fy;cases Fy
  have gN:H oA=none:=(XZ (o:=.lst []) Au).free Fy;have k1:(upd (upd H iA<|.lst []) oA<|.lst []) iA=some (.lst []):=by rw[Zb XH];exact XS
  have k2:(upd (upd H iA<|.lst []) oA<|.lst []) oA=some (.lst []):=XS;have s0:Same H (upd (upd H iA<|.lst []) oA<|.lst []):=(XZ Au).trans (XZ Fy)
  generalize upd (upd H iA<|.lst []) oA (.lst [])=H0 at *;refine⟨_,Z,_,Z,uD,uD,Uc (lo:=0) (n:=(ps.length:Int).toNat) (λi σ H2=>∃(D I:Ac)(cs:List Nat)(v6:Option V),σ=[some (.ref w),some<|.ref a,some<|.int ps.length,some<|.int (cs.sum:Nat),some<|.ref iA,some<|.ref oA,v6]/\Same H H2/\H2 iA=some (.lst<|IL I)/\H2 oA=some (.lst<|IL D)/\I.length<=i/\D.length<=i/\I.Pairwise (·<·)/\(∀z,z∈I↔z∈U/\z<(i:Int))/\D.Pairwise (·<·)/\(∀z,z∈D↔(0<=z/\z<(i:Int))/\z∉U)/\cs.length=D.length/\∀(i:Nat)(t:Int)(c:Nat),D[i]?=some t->cs[i]?=some c->∃I O,PC n ps I O c/\(∀z,z∈I↔(z∈U/\z<t)\/z=t)/\∀z,z∈O↔(0<=z/\z<(ps.length:Int))/\z∉U/\z<t)
   ⟨[],[],[],none,Z,s0,k1,k2,XJ _,XJ _,.nil,λz=>⟨λh=>(by cases h),λh=>(by have:=ua z h.1;omega)⟩,.nil,λz=>⟨λh=>(by cases h),λh=>(by omega)⟩,Z,λi t c h=>(by simp at h)⟩ ?_ ?_⟩
  .rintro i σ H2 hi ⟨D,I,cs,v6,rfl,s2,hI,hD,hIl,AQ,gM,Fn,zC,Qw,Tu,Ke⟩;have QO:(i:Int)<(ps.length:Int):=uD
   refine nm ?_;refine⟨_,Z,_,Z,a,_,Z,.inr<|ZG s2 hA,Z,ZT _,_,Z,?_⟩;rw[Pb,Lz];refine Xh (λWE=>?_) (λWE=>?_)
   .refine⟨_,Z,.inl ⟨Z,_,SqL.of hI⟩,_,Z,iA,_,_,Z,Z,hI,by rw[XD];omega,?_⟩;refine⟨D,I++[(i:Int)],cs,_,Z,Zu Au s2,by rw[XS,ZE],by rw[Zb (XI XH)];exact hD,by rw[Xu];exact yW hIl,uD,PN.mpr ⟨gM,NR _ _,λy hy x hx=>by rw[XG.mp hx];exact((Fn y).mp hy).2⟩,λz=>?_,zC,λz=>?_,Tu,Ke⟩
    .rw[XE,XG,Fn z];constructor
     .rintro(⟨f1,f2⟩|h)
      .exact⟨f1,uD⟩
      .rw[h];exact⟨WE,uD⟩
     .rintro⟨f1,f2⟩;by_cases e:z=(i:Int)
      .exact .inr e
      .exact .inl ⟨f1,uD⟩
    .rw[Qw z];refine⟨λh=>⟨uD,h.2⟩,λh=>⟨⟨h.1.1,?_⟩,h.2⟩⟩;by_cases e:z=(i:Int)
     .exact absurd (e▸WE) h.2
     .omega
   refine⟨_,Z,_,Z,_,Z,_,Z,one,λp1 UO=>?_⟩;have s5:=XZ (o:=.lst<|IL [(i:Int)]) UO
   refine Dl (l1:=I) (l2:=[(i:Int)]) (s5 _ _ hI) XS (by show _+1<=_;omega) λp2 VO=>?_;have s6:=XZ (o:=.lst<|IL<|I++[(i:Int)]) VO
   have gL:=s5.trans s6;have RV:IsSet ps.length (I++[(i:Int)]):=by
    refine XX.mpr ⟨λy hy=>?_,PN.mpr ⟨gM,NR _ _,λy hy x hx=>by rw[XG.mp hx];exact((Fn y).mp hy).2⟩⟩;rcases XE.mp hy with e|e
    .exact hT.1.all y ((Fn y).mp e).1
    .rw[XG.mp e];omega
   have HF:IsSet ps.length D:=XX.mpr ⟨λy hy=>by have:=((Qw y).mp hy).1;omega,zC⟩;refine⟨_,Z,w,p2,oA,n,ps,false,false,_,D,Z,hW.same<|s2.trans gL,hG,SqL.of XS,SqL.of<|gL _ _ hD,RV,HF,λc H7 hc s7=>?_⟩;refine⟨_,_,Z,Z,?_⟩;have SU:=gL.trans s7
   refine nm ?_;refine⟨_,Z,.inl ⟨Z,_,SqL.of<|SU _ _ hD⟩,_,Z,oA,_,_,Z,Z,SU _ _ hD,by rw[XD];omega,?_⟩;refine⟨D++[(i:Int)],I,cs++[c],some<|.int (i:Int),?_,Zu gN<|s2.trans SU,by rw[Zb XH];exact SU _ _ hI,by rw[XS,ZE],uD,by rw[Xu];exact yW AQ,gM,λz=>?_,PN.mpr ⟨zC,NR _ _,λy hy x hx=>by rw[XG.mp hx];exact((Qw y).mp hy).1.2⟩,λz=>?_,by rw[Xu,Xu,Tu];rfl,λj t d hj hd=>?_⟩
   .rw[List.sum_append,List.sum_singleton];rfl
   .rw[Fn z];refine⟨λh=>⟨h.1,uD⟩,λh=>⟨h.1,?_⟩⟩;by_cases e:z=(i:Int)
    .exact absurd (e▸h.1) WE
    .omega
   .rw[XE,XG,Qw z];constructor
    .rintro(⟨f1,f2⟩|h)
     .exact⟨uD,f2⟩
     .rw[h];exact⟨uD,WE⟩
    .rintro⟨f1,f2⟩;by_cases e:z=(i:Int)
     .exact .inr e
     .exact .inl ⟨uD,f2⟩
   .by_cases c1:j<cs.length
    .rw[Ys c1]at hd;rw[Ys uD]at hj;exact Ke j t d hj hd
    .rw[Yo uD]at hd;have jr:j-cs.length=0:=by
      have:=(Xr.mp hd).1
      have h1:([c]:List Nat).length=1:=rfl;omega
     rw[jr]at hd;obtain rfl:c=d:=Ye hd;rw[Yo uD,show j-D.length=0 by omega]at hj;obtain rfl:(i:Int)=t:=Ye hj;refine⟨_,_,hc,λz=>by rw[XE,Fn z,XG],λz=>?_⟩;rw[Qw z];constructor
     .rintro⟨f1,f2⟩;exact⟨uD,f2,uD⟩
     .rintro⟨f1,f2,f3⟩;exact⟨uD,f2⟩
  .rintro σ H2 ⟨D,I,cs,v6,rfl,s2,_,_,_,_,_,_,zC,Qw,Tu,Ke⟩;rw[show(((ps.length:Int).toNat:Nat):Int)=(ps.length:Int) by omega]at Qw;refine⟨_,Z,?_⟩;exact q _ _ (Ci hT D Qw (MF zC) cs Tu Ke) s2
inductive spZ31(K:Ad)(CP C Pt:Addr)(vs:List V)(H:Hp)(Q:VK)(_:XK):Prop
 |mk (w:Addr) (n:Int) (ps:Aa) (num:Nat) (R:Ab) (_:vs=[.ref w,.int R.length,.int num,.int ps.length]) (_:WebAt C H w n ps) (_:Zz n ps) (_:WY H Pt) (_:num<R.length) (_:RowW n ps R) (_:R.Nodup) (_:(∀l∈R,Zf n ps l)) (_:Adj Qy R) (_:∀H':Hp,SameX Pt H H'->WY H' Pt->Q (.bl true) H')
theorem Rp:FnScope ["web","many","number","count","tree","behind_it","other","further"] ["web","many","number","count"] (Xt (top 86)):=WC B
theorem gK{Pt:Addr}(T:Txt K mg t)(hB:Qc K mg base t.dZB Pt):Xf P w base Xo T.qZ31 46 (spZ31 K t.A_Part t.A_Web Pt):=by
 refine T.qZ31.okI ["web","many","number","count","tree","behind_it","other","further"] B λXC A outer s H vs Q E hr h=>?_
 .obtain⟨w,n,ps,num,R,rfl,hW,hG,hT,hnum,hR,hN,trees,gJ,q⟩:=h;refine⟨_,(XQ (Zg (i:=4) Rp.nd Z (Or.inr Z)<|XA (zS T hB) hr T.qZL Zs<|XY (pv 0)<|XY (pv 2) XW)
   (XQ (Zg (i:=5) Rp.nd Z (Or.inl Z)<|XA (iH T hB) hr T.qZO Zs<|XY (pv 0)<|XY (pv 4) XW)
   (XQ (Xx (Zh Ub (XA (Hl T hB) hr T.qZN Zs<|XY (pv 0)<|XY (pv 4) XW) (pv 2)<|Zo _)
   (XN<|Zi UE)
   Zm)
   (XQ (Xx (PW.pt<|Ew (Zh fG (pv 5) Qp<|Zo _)<|Ex<|Zh Ub (Zd (Zk K) uG T.n_len Boot.«len»<|XY (WG Z (sc0:=Xt<|top 86) (N0:=["web","many","number","count","tree","behind_it","other","further"]) (N':=["tie","tree"]) (o:=1) (fr:=[4]) ⟨Z,B,B,B,Z,B⟩ (Gi K<|pv 5) (Zt uB) (λ_ _ _ _=>(Ze (i:=0) (show List.Nodup (["tie","tree"]:List Str) by decide +kernel) Z<|Or.inl Z)) (λ_ _ _ _=>(Qm<|Zh (Gk K) (pv 0) (pv 1) Z)) λ_ _ _ _=>(pv 0)) XW) XO<|Zo _)
   (XN<|Zi UE)
   Zm)
   (XQ (Xx (Zh Ub (Sn Ec (pv 5) Qp<|Zo _) (Sn SH (pv 2) (Zr SI (pv 1) XO)<|Zo _)<|Zo _)
   (XN<|Zi UE)
   Zm)
   (XQ (Zg (i:=6) Rp.nd Z (Or.inl Z)<|XA (Av T) hr T.qZu Zs<|XY (pv 0)<|XY (pv 2) XW)
   (XQ (Zg (i:=7) Rp.nd Z (Or.inl Z)<|XA (jk T) hr T.qZy Zs<|XY (pv 0)<|XY (pv 6) XW)
   (XQ (Xx (PW.pt<|Sq (Zh Ub (XA (Aq T) hr T.qZw Zs<|XY (pv 0)<|XY (pv 6) XW) (pv 2)<|Zo _)<|JA<|Zh Ub (XA (gO T) hr T.qZ21 Zs<|XY (pv 0)<|XY (pv 6)<|XY (pv 3) XW) (pv 2)<|Zo _)
   (XN<|Zi UE)
   Zm)
   (XN<|Zi<|Lu (Sn Ec (pv 7) Qp<|Zo _)<|Jz<|Sn (ks K<|Gm hr) (pv 7) (pv 6)<|Zo _))))))))),?_⟩
  obtain⟨_,_,_,_,_,_,_,_,Qu⟩:=id hR;have iL:=wZ hG Qu
  obtain⟨g1,g2,g3,g4⟩:=id hG;refine⟨_,Z,_,Z,w,n,ps,num,R,Z,hW,hG,hT,J,J,hR,λr1 U1 H1 LV NY We Wj=>?_⟩;refine nm ?_;rw[YA]at LV;have hW1:=hW.samex hT NY
  have gI:=trees U1 (Xi LV);refine⟨_,Z,_,Z,w,r1,n,ps,U1,R,num,Z,hW1,hG,We,SqT.of Wj,gI,hR,hN,LV,λv H2 hv Tq WV=>?_⟩;refine nm ?_;dsimp only[List.set];have SR:=NY.trans Tq
  have hW2:=hW.samex hT SR;have Wa:=Tq _ _ (We.ne Wj S) Wj
  refine⟨_,Z,_,Z,w,r1,n,ps,U1,R,Z,hW2,hG,WV,SqT.of Wa,gI,hR,Xi LV,λj H3 hj LR Vy=>?_⟩;obtain rfl:j=num:=(yZ (Xr.mp hj).1 hN).mp (hj.trans LV.symm);have Ur:=SR.trans LR
  have hW3:=hW.samex hT Ur;have TM:=LR _ _ (WV.ne Wa S) Wa
  refine⟨_,Z,Z,_,Z,?_⟩;rw[Zy];refine QS Z ?_;refine Wl ?_;refine pS (λσ' H'=>σ'=[some (.ref w),some<|.int R.length,some<|.int j,some<|.int ps.length,some<|.ref r1,some v,none,none]/\SameX Pt H H'/\WY H' Pt) ?_ λK' hK=>?_;rotate_left
  .cases ho:R[j+1]? with
   |none=>
    rw[ho]at hv;obtain rfl:v=.non:=hv;have last:=zb.mp ho
    refine⟨_,Z,Z,_,Z,?_⟩;refine QS Z (Vq ?_);refine Wl ?_;refine⟨_,Z,Z,_,Z,_,Z,_,_,Z,Z,Z,Z,_,Z,?_⟩;rw[Zy,Yp (show(j:Int)=(R.length:Int)-1 by lia),Yp (rfl:V.non=V.non)];refine QS Z ?_;exact hK _ _ ⟨Z,Ur,Vy⟩
   |some V=>
    rw[ho]at hv;obtain⟨e1,rfl,KC⟩:=(show Wy H2 v V from hv);have vW:=LR _ _ (WV.ne KC S) KC
    have tV:=trees V (Xi ho);have st:(V.filter λy=>decide<|y∉U1).length=1:=kN gI tV (gJ j U1 V LV ho)
    have jl:=(Xr.mp ho).1;have lV:V.length<=20:=by have:=tV.2.1;lia
    refine⟨_,Z,Z,_,Z,?_⟩;refine IY S ?_;refine⟨_,Z,e1,Z,⟨_,SqT.of vW⟩,Ds (K:=K) (a:=e1) (xs:=IL V) (λi ws Nk=>Nk=H3/\i<=V.length/\ws=IL ((V.take i).filter λy=>decide<|y∉U1)) ⟨Z,Yj _,Z⟩ (Zl<|by rw[XD];lia) (λi ws Nk hi h=>by obtain⟨e,Wh,ew⟩:=h;exact⟨e▸SqT.of vW,by rw[ew,XD];exact Yv (YF ..)<|by rw[Yn];lia⟩) ?_ ?_⟩
    .rintro i y ws Nk hi ⟨rfl,VB,rfl⟩ uz Xk;obtain⟨y,rfl,hy⟩:=WQ hi;have Xj:i<V.length:=(Xr.mp hy).1
     refine⟨_,Z,_,Z,r1,_,Z,.inr<|SqT.of TM,Z,ZT _,_,Z,?_⟩;rw[Pb];refine WK (λhc=>?_) (λhc=>?_)
     .refine Xk _ _ ⟨Z,Xj,?_⟩;rw[TV hy,if_neg (by simpa using hc),YI]
     .refine⟨_,Z,Xk _ _ ⟨Z,Xj,?_⟩⟩;rw[TV hy,if_pos<|Yp hc,ZE]
    rintro ws Nk ⟨rfl,_,rfl⟩ dA Ax;rw[XD,YD];have s5:=XZ (o:=.lst<|IL<|V.filter λy=>decide<|y∉U1) Ax
    refine⟨dA,_,Z,.inl<|SqL.of XS,Z,_,Z,?_⟩;rw[XD,st];refine QS Z ?_;refine Wl ?_;refine⟨_,Z,Z,_,Z,_,Z,_,_,Z,Z,Z,Z,_,Z,?_⟩;rw[Zy,YR (show ¬(j:Int)=(R.length:Int)-1 by lia)];refine QS S ?_;exact hK _ _ ⟨Z,Ur.trans<|SameX.same s5,Vy.same s5⟩
  rintro σ' H4 ⟨rfl,Sx,TK⟩;have Fv:=hW.samex hT Sx
  refine⟨_,Z,_,Z,w,n,ps,j,Z,Fv,hG,J,J,λc hc _ _ U a5 H5 tU rU s5 ha5=>?_,λh=>?_⟩;rotate_left
  .rcases h with h|⟨c,hc,h⟩
   .lia
   .rw[hc.uniq Qu]at h;lia
  refine nm ?_;refine⟨_,Z,_,Z,w,a5,n,ps,true,U,Z,Fv.same s5,hG,SqT.of ha5,tU,λv6 o H6 s6 hv6 ho6=>?_⟩;refine nm ?_;dsimp only[List.set];rw[YA]at rU;have ha6:=s6 _ _ ha5
  have Kf:=s5.trans s6;refine⟨_,Z,_,Z,w,a5,n,ps,true,U,Z,Fv.same Kf,hG,SqT.of ha6,λ_ r H7 HV s7=>?_,λh=>absurd tU h⟩;obtain rfl:=HV.uniq rU;refine⟨_,Z,Z,_,Z,?_⟩;rw[Zy];refine QS Z ?_;have s47:=Kf.trans s7
  have ha7:=s7 _ _ ha6;refine⟨_,Z,_,Z,_,Z,w,a5,n,ps,U,Z,Fv.same s47,hG,SqT.of ha7,tU,λr8 H8 hr8 s8=>?_⟩;obtain rfl:=hr8.uniq rU;refine⟨_,Z,Z,_,Z,?_⟩;rw[Zy];refine QS Z ?_;refine Wl ?_;have s48:=s47.trans s8
  have Fu:=Sx.trans (SameX.same s48);have Vk:=TK.same s48
  have hv8:=(hv6.same s7).same s8;cases o with
  |none=>
   obtain rfl:v6=.non:=hv8;refine⟨_,Z,Z,_,Z,?_⟩;rw[Yp (rfl:V.non=V.non)];exact Wb (q _ Fu Vk)
  |some F=>
   obtain⟨e8,rfl,he8⟩:=(show Wy H8 v6 F from hv8);refine⟨_,Z,Z,_,Z,?_⟩;rw[YR S];refine Vq ⟨_,Z,_,Z,e8,a5,F,U,Z,Z,SqT.of he8,SqT.of<|s8 _ _ ha7,?_⟩;rw[show HT.lexLt U F=true from ho6.2.1];exact q _ Fu Vk
inductive spZ41(K:Ad)(Pt:Addr)(vs:List V)(H:Hp)(Q:VK)(_:XK):Prop
 |mk (a ns:_) (_:vs=[.ref a]) (_:SqL K H a (IL ns)) (_:ns.length<=63) (_:WY H Pt) (_:∀H',Q (.bl true) H')
theorem VI:FnScope ["script","places","ties","web","lengths","many","total","number","tree","tie"] ["script"] (Xt sZ41):=WC B
theorem zB{Pt:Addr}(T:Txt K mg t)(hB:Qc K mg base t.dZB Pt):Xf P w base Xo T.qZ41 47 (spZ41 K Pt):=by
 refine T.qZ41.okI ["script","places","ties","web","lengths","many","total","number","tree","tie"] B λXC A outer s H vs Q E hr h=>?_
 .obtain⟨a,ns,rfl,hS,He,hTb,k⟩:=h;refine⟨_,(XQ (Jv (XA (g8 T) hr T.qZX Zs<|XY (pv 0)<|XY XO<|XY XO XW)<|Qj (n:=2) K Z<|Zw (Ze (i:=1) VI.nd Z<|Or.inl Z)<|Zw (Ze (i:=2) VI.nd Z<|Or.inl Z) Qo)
   (XQ (Jv (XA (ix T) hr T.qZS Zs<|XY (XA (gX T) hr T.qZZ Zs<|XY (pv 1)<|XY (pv 2)<|XY (XA (gZ T) hr T.qZY Zs<|XY (pv 0)<|XY (Zd (Zk K) uG T.n_len Boot.«len»<|XY (pv 2) XW) XW) XW) XW)<|Qj (n:=2) K Z<|Zw (Ze (i:=3) VI.nd Z<|Or.inl Z)<|Zw (Ze (i:=4) VI.nd Z<|Or.inl Z) Qo)
   (XQ (Zg (i:=5) VI.nd Z (Or.inl Z)<|XA (Om T) hr T.qZl Zs<|XY (pv 3) XW)
   (XQ (Xx (Zh SH (pv 5) XO<|Zo _)
   (XN<|Zi UE)
   Zm)
   (XQ (Zg (i:=6) VI.nd Z (Or.inl Z)<|Zr ZL (Zd (xX K Z) uG T.n_sum Boot.«sum»<|XY (pv 0) XW)<|Zr Tn XO XO)
   (XQ (Va YQ Z (ZQ K<|ZZ<|XY (Zr ZL (pv 6)<|pv 5)<|XY (Zr SI (pv 5) XO) XW) (Ze (i:=7) VI.nd Z<|Or.inl Z)
   (XN (Xx (UD<|PD<|XA (gK T hB) hr T.qZ31 Zs<|XY (pv 3)<|XY (pv 5)<|XY (pv 7)<|XY (Zd (Zk K) uG T.n_len Boot.«len»<|XY (pv 2) XW) XW)
   (XN<|Zi UE)
   Zm)))
   (XQ (Zg (i:=8) VI.nd Z (Or.inl Z)<|XA (gV T) hr T.qZ11 Zs<|XY (pv 1)<|XY (pv 2)<|XY (pv 6) XW)
   (XQ (Xx (PW.pt<|Sq (Zh (qT K<|Gm hr) (XA (zS T hB) hr T.qZL Zs<|XY (pv 3)<|XY (XA (Hl T hB) hr T.qZN Zs<|XY (pv 3)<|XY (pv 8) XW) XW) (pv 8)<|Zo _)<|JA<|Zh (qT K<|Gm hr) (XA (Av T) hr T.qZu Zs<|XY (pv 3)<|XY (XA (Aq T) hr T.qZw Zs<|XY (pv 3)<|XY (pv 8) XW) XW) (pv 8)<|Zo _)
   (XN<|Zi UE)
   Zm)
   (XQ (Zg (i:=9) VI.nd Z (Or.inl Z)<|Zr ZL (pv 6)<|Zd (DZ Z) uG T.n_max Boot.«max»<|XY XO<|XY (Zd (Zk K) uG T.n_len Boot.«len»<|XY (pv 2) XW) XW)
   (XQ (Xx (Zh SH (Zd (Zk K) uG T.n_len Boot.«len»<|XY (pv 2) XW) XO<|Zo _)
   (XN<|Zi<|Sn SH (pv 5) XO<|Zo _)
   Zm)
   (XN<|Zi<|Sn SH (Zr UM (XA (HI T) hr T.qZn Zs<|XY (pv 3)<|XY (ZZ<|XY (pv 9) XW)<|XY (ZZ XW) XW)<|XA (HI T) hr T.qZn Zs<|XY (pv 3)<|XY (ZZ XW)<|XY (ZZ<|XY (pv 9) XW) XW) (pv 5)<|Zo _))))))))))),?_⟩
  refine⟨_,Z,a,ns,10,18,Z,hS,He,uB,uB,uB,uB,λr l n xs ps H1 s1 Wj Qf Ui hP hG hnm um=>?_⟩;refine⟨r,_,Z,SqT.of Wj,Z,_,_,Z,_,_,Z,Z,?_⟩;have RH:=hP.1
  obtain⟨g1,g2,g3,g4⟩:=id hG;refine⟨_,Z,_,Z,_,Z,_,Z,l,xs,Z,.inl<|SqL.of Ui,a,ns,xs.length,Z,s1.seq hS,He,J,λb ls H2 s2 _ hb Vg hTl=>?_⟩;have hl:ls.length=ps.length:=J
  refine⟨n,l,b,xs,ps,ls,Z,SqL.of<|s2 _ _ Ui,hP.same s2,SqL.of hb,hG,hl,hTl,λH3 s3=>?_⟩;have vX:=s2.trans s3
  refine⟨n,ps,ls,Z,hG,hl,hTl,λtA x LA H4 s4 ha0 Rv hW hLA=>?_⟩;refine⟨tA,_,Z,SqT.of Rv,Z,_,_,Z,_,_,Z,Z,?_⟩;have z5:=vX.trans s4
  have sH4:=s1.trans z5;refine⟨_,Z,x,n,ps,Z,hW,hG,λc H5 hc s5=>?_⟩;refine nm ?_;refine⟨_,Z,Z,_,Z,?_⟩;rw[Zy];have vV:=z5.trans s5
  have zP:=sH4.trans s5;refine Xh (λ_=>k _) λc0=>?_;refine Wl ?_;obtain⟨F,hF⟩:∃F,Zf n ps F:=by
   obtain⟨L,_,hm,hl⟩:=hc;cases L with
   |nil=>exact absurd (Xy Int.ofNat hl.symm) c0
   |cons F L=>exact⟨F,(hm F).mp Xd⟩
  have hJ:CS n ps:=λi j hi hj=>(hF.2.2 i j hi hj).mono (ZN λz hz=>Xq.mpr<|hF.1.all z hz);obtain⟨R,hR,vR,wD⟩:=kQ hG ⟨F,hF⟩;obtain⟨_,F2,_,_,Tt,_,_,_,Qu⟩:=id hR;obtain rfl:=hc.uniq Qu;have gJ:Adj Qy R:=(ZL6 (L:=F2) hG hR Tt.tr.1 λU hU=>Tt.least U<|Uh.mpr hU).2.1
  have trees:∀V∈R,Zf n ps V:=λV hV=>(wD V).mp hV;have iL:=wZ hG Qu
  have cp:(0:Int)<R.length:=J;refine⟨_,Z,a,ns,Z,zP.seq hS,_,_,Z,Z,⟨uB,uB⟩,_,_,Z,Z,(by show(0:Int)<10^Int.toNat 60;decide),?_⟩;refine nm ?_;dsimp only[List.set];generalize ns.sum%10^Int.toNat 60=TJ at *;have i0:=YZ TJ (by lia:(R.length:Int)≠0)
  have i1:=YX TJ cp;have NX:=hTb.same zP
  have hW5:=hW.same s5;refine⟨_,Z,_,Z,_,_,Z,Z,cp,_,Z,_,_,Z,Z,(by show 2<=sizeLine;decide),λtl AR=>?_⟩;have u6:=XZ (o:=.lst<|IL [TJ%R.length,(R.length:Int)-1]) AR
  have GY:(upd H5 tl<|.lst<|IL [TJ%R.length,(R.length:Int)-1]) tl=some (.lst<|IL [TJ%R.length,(R.length:Int)-1]):=XS;have SN:=NX.same u6
  have hW6:=hW5.same u6;have sH6:=zP.trans u6
  have Fp:=vV.trans u6;refine⟨tl,Z,⟨_,SqL.of GY⟩,ym (K:=K) (a:=tl) (xs:=IL [TJ%R.length,(R.length:Int)-1]) (λj σ H7=>∃v7:Option V,σ=[some (.ref a),some<|.int n,some<|.ref l,some<|.ref x,some<|.ref LA,some<|.int R.length,some<|.int TJ,v7,none,none]/\SameX Pt (upd H5 tl<|.lst<|IL [TJ%R.length,(R.length:Int)-1]) H7/\WY H7 Pt) ⟨_,Z,SameX.same<|Same.refl _,SN⟩ (λj σ H7 _ h=>by obtain⟨_,_,e,_⟩:=h;exact SqL.of<|e _ _ (SN.ne GY S) GY) ?_ ?_⟩
  .rintro j v σ H7 hj ⟨v7,rfl,PQ,GX⟩;obtain⟨z,rfl,hz⟩:=WQ hj;have hzR:0<=z/\z<R.length:=by
    rcases Yg.mp (Xi hz) with rfl|h
    .exact⟨i0,i1⟩
    .rw[XG.mp h];lia
   obtain⟨z,rfl⟩:=vD hzR.1;refine nm ?_;dsimp only[List.set];refine⟨_,Z,_,Z,_,Z,_,Z,l,xs,Z,.inl<|SqL.of<|PQ _ _ (SN.ne (Fp _ _ Ui) S)<|Fp _ _ Ui,?_⟩;refine⟨x,n,ps,z,R,(by rw[RH];rfl),hW6.samex SN PQ,hG,GX,J,hR,vR,trees,gJ,λH8 Fu Vk=>⟨_,Z,?_⟩⟩;exact Vq ⟨_,Z,PQ.trans Fu,Vk⟩
  rintro σ H7 ⟨v7,rfl,PQ,GX⟩;have hW7:=hW6.samex SN PQ
  have PX:=Fp _ _ Ui;have hl7:=PQ _ _ (SN.ne PX S) PX
  have hP7:PairsV H7 xs ps:=⟨RH,λi p h=>by obtain⟨v,hv,tt,rfl,e⟩:=(hP.same Fp).2 i p h;exact⟨_,hv,tt,Z,PQ _ _ (SN.ne e S) e⟩⟩;refine⟨_,Z,_,Z,_,Z,n,l,TJ,xs,ps,Z,SqL.of hl7,hP7,hG,hJ,λt8 U H8 s8 FC tU=>?_⟩;refine nm ?_;dsimp only[List.set];have vQ:=(wD U).mpr tU
  have hW8:=hW7.same s8;have Vk:=GX.same s8
  refine⟨_,Z,_,Z,_,Z,x,t8,n,ps,U,R,Z,hW8,hG,Vk,SqT.of FC,tU,hR,vQ,λj H9 hj Ft GW=>?_⟩;have jl:=(Xr.mp hj).1
  have hW9:=hW8.samex Vk Ft;have ht9:=Ft _ _ (Vk.ne FC S) FC
  refine⟨x,n,ps,j,R,Z,hW9,hG,GW,J,J,hR,λtB V HA hV Fs tabA htB=>?_⟩;rw[YA,hj]at hV;obtain rfl:=Ye hV;have gH:=hW9.samex GW Fs
  have GV:=Fs _ _ (GW.ne ht9 S) ht9;refine⟨_,Z,1,_,tB,t8,Z,Z,uB,qC (SqT.of htB)<|SqT.of GV,_,Z,?_⟩;rw[Yp Z];refine Vq ?_;refine⟨_,Z,_,Z,_,Z,x,t8,n,ps,true,U,Z,gH,hG,SqT.of GV,λ_ rk HB hrk sB=>?_,λh=>absurd tU h⟩;have rkl:rk<R.length:=by obtain⟨L,l1,l2,rfl⟩:=id hrk;exact Cj (RQ.mpr ⟨λh=>Yy<|(FZ U).symm.trans ((l2 U).mp h).2,l1⟩) λz hz=>(Yg.mp hz).elim (λe=>e▸vQ) λh=>(wD z).mpr ((l2 z).mp h).1
  have gG:=sB _ _ GV;refine⟨x,n,ps,rk,Z,gH.same sB,hG,J,J,λc hc _ _ V tC HC tV rV sC htC=>?_,λh=>?_⟩;rotate_left
  .rcases h with h|⟨c,hc,h⟩
   .lia
   .rw[hc.uniq Qu]at h;lia
  rw[YA]at rV;obtain rfl:=mr tU tV hrk rV;refine⟨_,Z,1,_,tC,t8,Z,Z,uB,qC (SqT.of htC)<|SqT.of<|sC _ _ gG,_,Z,?_⟩;rw[Yp Z];refine Vq ?_;refine Wl ?_;have sH:=sB.trans sC
  have hWC:=gH.same sH;have sxC:=((((PQ.trans<|SameX.same s8).trans Ft).trans Fs).trans (SameX.same sH))
  have hlC:=SqL.of (K:=K) (sxC _ _ (SN.ne PX S) PX);have mp:(0:Int)<(if (xs.length:Int)>1 then (xs.length:Int) else 1):=by split<;>lia
  refine⟨_,Z,_,Z,l,xs,Z,.inl hlC,_,_,Z,_,_,Z,Z,mp,?_⟩;refine nm ?_;dsimp only[List.set];refine⟨_,Z,l,xs,Z,.inl hlC,Z,_,Z,?_⟩;rw[Zy];refine Xh (λe=>?_) (λe=>?_)
  .refine⟨_,Z,Z,?_⟩;rw[Zy,Yp ?_]
   .exact k _
   have no:∀V∈R,V=[]:=λV hV=>Fm.mpr λz hz=>by have:=(trees V hV).1.all z hz;lia
   have:=Cj vR (m:=[[]]) λV hV=>XG.mpr (no V hV)
   have:R.length<=1:=this
   lia
  have t0:=YZ TJ (Int.ne_of_gt mp);have t1:=YX TJ mp
  have t2:TJ%(if (xs.length:Int)>1 then (xs.length:Int) else 1)<ps.length:=by split at t1<;>split<;>lia
  generalize TJ%(if (xs.length:Int)>1 then (xs.length:Int) else 1)=y at *;have zA:IsSet ps.length [y]:=XX.mpr ⟨λz hz=>by rw[XG.mp hz];exact⟨t0,t2⟩,NR _ _⟩
  have zy:1<=sizeLine:=uB;refine⟨_,Z,_,Z,zy,λb2 Ta=>⟨Yj _,λb3 hb3=>?_⟩⟩;have u2:=XZ (o:=.lst<|IL [y]) Ta
  have u3:=XZ (o:=.lst<|IL []) hb3;have u23:=u2.trans u3
  refine⟨x,b2,b3,n,ps,false,false,[y],[],Z,hWC.same u23,hG,SqL.of<|u3 _ _ XS,SqL.of XS,zA,IsSet.nil _,λc1 HD Fx sD=>?_⟩;refine⟨_,Z,Yj _,λb4 hb4=>⟨_,Z,zy,λb5 wx=>?_⟩⟩;have u4:=XZ (o:=.lst<|IL []) hb4
  have u5:=XZ (o:=.lst<|IL [y]) wx;have u45:=u4.trans u5
  refine⟨x,b4,b5,n,ps,false,false,[],[y],Z,hWC.same<|u23.trans<|sD.trans u45,hG,SqL.of<|u5 _ _ XS,SqL.of XS,IsSet.nil _,zA,λc2 HE Wc sE=>?_⟩;refine⟨_,_,Z,Z,_,Z,Z,?_⟩
  have:=(Cf.mp<|cD Fx Wc).uniq Qu
  rw[Zy,Yp J];exact k _
end
end My
namespace My
open PySem L2
theorem Qt{K:Ad}{f:Addr}{fd:FuncData}(F:Fun K "law" "law" sZ41 f fd)(s:Shared)(u:Value):BindsTo s fd ⟨[u],[]⟩ [("script",u)]:=by obtain⟨oc,od,kV,doc,pm,an,XC,ct,Tz,rfl,lk,SJ⟩:=F.ex;exact .of_eq rfl
end My
open PySem PySem.W PyProof.Rows
set_option maxRecDepth 100000 in
set_option maxHeartbeats 0 in
theorem PySem.Challenge.cw_spanrow_k92_whole_far_numbers_holds : PySem.Challenge.rw_spanrow_k92_whole_far_numbers.Holds := by
 w_on;o_law;k_head;(case hw=>w_witness2)
 k_fill
 refine L2.OB (l:=PySem.Challenge.rw_spanrow_k92_whole_far_numbers) (n:=63) (k:=47) (x:="script") (CX:=L2.Xo) (sp:=λK=>My.spZ41 K 370) (c:=372) (Pt:=370) rfl (by decide) rfl ⟨rfl,by decide,by decide⟩ (λw h Y=>⟨PySem.W.km_in_of Y,PySem.W.km_tabs_of Y 370 (XG.mpr rfl)⟩) ?C ?P ?F (λ_ H a ns hl hO hS=>⟨a,ns,rfl,hS,hl,⟨#[],hO.1,trivial,.inl rfl⟩,λ_=>rfl⟩) (λ_ _ _ _ z=>z)
 case C=>intro w;kernel_rfl
 case P=>intro w;kernel_rfl
 case F =>
  intro w mg fa h KX G DF
  let f x n:=My.FQ (L2.Lf KX) mg x (My.top n)
  obtain⟨⟨aZ0,dZ0,qZ0⟩,⟨aZ1,dZ1,qZ1⟩,⟨aZ2,dZ2,qZ2⟩,⟨aZ3,dZ3,qZ3⟩,⟨aZ4,dZ4,qZ4⟩,⟨aZ5,dZ5,qZ5⟩,⟨aZ6,dZ6,qZ6⟩,⟨aZ7,dZ7,qZ7⟩,⟨aZ9,dZ9,qZ9⟩,⟨aZa,dZa,qZa⟩,⟨aZb,dZb,qZb⟩,⟨aZc,dZc,qZc⟩,⟨aZd,dZd,qZd⟩,⟨aZe,dZe,qZe⟩,⟨aZf,dZf,qZf⟩,⟨aZg,dZg,qZg⟩,⟨aZh,dZh,qZh⟩,⟨aZi,dZi,qZi⟩,⟨aZj,dZj,qZj⟩,⟨aZk,dZk,qZk⟩,⟨aZl,dZl,qZl⟩,⟨aZm,dZm,qZm⟩,⟨aZn,dZn,qZn⟩,⟨aZo,dZo,qZo⟩,⟨aZp,dZp,qZp⟩,⟨aZq,dZq,qZq⟩,⟨aZr,dZr,qZr⟩,⟨aZs,dZs,qZs⟩,⟨aZt,dZt,qZt⟩,⟨aZu,dZu,qZu⟩,⟨aZv,dZv,qZv⟩,⟨aZw,dZw,qZw⟩,⟨aZx,dZx,qZx⟩,⟨aZy,dZy,qZy⟩,⟨aZz,dZz,qZz⟩,⟨aZA,dZA,qZA⟩,⟨aZC,dZC,qZC⟩,⟨aZD,dZD,qZD⟩,⟨aZE,dZE,qZE⟩,⟨aZF,dZF,qZF⟩,⟨aZG,dZG,qZG⟩,⟨aZH,dZH,qZH⟩,⟨aZI,dZI,qZI⟩,⟨aZJ,dZJ,qZJ⟩,⟨aZK,dZK,qZK⟩,⟨aZL,dZL,qZL⟩,⟨aZM,dZM,qZM⟩,⟨aZN,dZN,qZN⟩,⟨aZO,dZO,qZO⟩,⟨aZP,dZP,qZP⟩,⟨aZQ,dZQ,qZQ⟩,⟨aZR,dZR,qZR⟩,⟨aZS,dZS,qZS⟩,⟨aZT,dZT,qZT⟩,⟨aZU,dZU,qZU⟩,⟨aZV,dZV,qZV⟩,⟨aZW,dZW,qZW⟩,⟨aZX,dZX,qZX⟩,⟨aZY,dZY,qZY⟩,⟨aZZ,dZZ,qZZ⟩,⟨aZ01,dZ01,qZ01⟩,⟨aZ11,dZ11,qZ11⟩,⟨aZ21,dZ21,qZ21⟩,⟨aZ31,dZ31,qZ31⟩,⟨aZ41,dZ41,qZ41⟩⟩:f "refuse_not_square" 10 ["table"]/\f "row_taken_off" 11 ["row","pivot","last"]/\f "first_with_some" 12 ["rows"]/\f "determinant" 13 ["table"]/\f "row_without" 14 ["row","number"]/\f "table_without" 15 ["table","number"]/\f "is_tie" 21 ["web","number"]/\f "refuse_bad_web" 20 ["places","ties"]/\f "all_ties" 22 ["web"]/\f "ties_beside" 23 ["web","ties"]/\f "ties_without" 24 ["ties","left_out"]/\f "have_common" 25 ["one","other"]/\f "is_set" 26 ["web","ties"]/\f "made_set" 27 ["web","ties"]/\f "merged_marks" 28 ["web","marks","ties"]/\f "piece_marks" 29 ["web","ties"]/\f "pieces_of" 30 ["web","ties"]/\f "is_joined" 31 ["web","ties"]/\f "weighted_table" 33 ["web","weights"]/\f "pull_table" 34 ["web"]/\f "tree_count" 35 ["web"]/\f "part_count" 36 ["web","inside","outside"]/\f "count_with" 37 ["web","inside","outside"]/\f "is_tree" 39 ["web","ties"]/\f "refuse_no_tree" 40 ["web","tree"]/\f "grown_tree" 41 ["web","inside","order"]/\f "tree_cut" 42 ["web","tree","tie"]/\f "ring_of" 43 ["web","tree","tie"]/\f "least_in" 45 ["web","inside","outside"]/\f "tree_at" 46 ["web","number"]/\f "lesser_ties" 47 ["ties","bound"]/\f "number_of" 48 ["web","tree"]/\f "tree_behind" 49 ["web","tree"]/\f "next_tree" 50 ["web","tree"]/\f "end_pieces" 53 ["web","marks","tie"]/\f "open_ties" 54 ["web","marks","gone"]/\f "whole_part" 56 ["web"]/\f "half_without" 57 ["part"]/\f "half_with" 58 ["part"]/\f "part_size" 59 ["part"]/\f "trees_with_tie" 60 ["part","into"]/\f "undivided_row" 61 ["part"]/\f "trees_between" 62 ["part","size","start","stop"]/\f "refuse_below_nought" 51 ["number"]/\f "row_from" 64 ["web","number","most"]/\f "row_at" 65 ["web","number"]/\f "number_in" 63 ["part","size","tree"]/\f "row_number" 66 ["web","tree"]/\f "row_next" 67 ["web","tree"]/\f "is_number" 71 ["word"]/\f "read_number" 72 ["word"]/\f "read_line" 73 ["line","name","many"]/\f "read_web" 74 ["text"]/\f "_law_cell" 76 ["script","k"]/\f "_law_mixed" 77 ["cell","k"]/\f "_law_draws" 78 ["script","start","count","way"]/\f "_law_ties" 79 ["draws","places","hang"]/\f "_law_web" 80 ["script","most","count"]/\f "_law_lengths" 83 ["script","count"]/\f "_law_text" 84 ["places","ties","lengths"]/\f "_law_marks" 81 ["places","ties","some"]/\f "_law_tree_by" 82 ["places","ties","cell"]/\f "_law_less" 85 ["web","tree","count"]/\f "_law_number_good" 86 ["web","many","number","count"]/\My.FQ (L2.Lf KX) mg "law" My.sZ41 ["script"]:=by
   dsimp only [L2.Lf,f]
   and_intros
   all_goals (refine' My.Bc KX G ?a ?l ?c ?k ?b;(case a | l | c | k=>k_is);(case b=>first | exact λ_ _ _ _ _ _=>My.un1 λ_=>rfl | exact λ_ _ _ _ _ _=>My.rQ λ_ _=>rfl | exact λ_ _ _ _ _ _=>My.bI λ_ _ _=>rfl | exact λ_ _ _ _ _ _=>My.un4 λ_ _ _ _=>rfl))
  have zx:My.eW (L2.Lf KX) mg "Web" "Web.__init__" My.sZ8 ["places","ties"]:=by
   dsimp only [L2.Lf];refine' My.Dt KX G ?aC ?a ?i ?l ?c ?k ?pg ?hd ?po ?sa ?mk ?kc ?na
   (case aC | a | i | l | c | k | pg | hd | po | sa | mk | kc=>k_is)
   (case na=>(intro f hf;simp only [Yg,JF,or_false]at hf;rcases hf with rfl | rfl <;> k_is))
  have GU:My.Bw (L2.Lf KX) mg "Part" "Part.__init__" My.sZB ["web","kept","shut","lead","least","incoming","further"] 370:=by
   dsimp only [L2.Lf];refine' My.Ic KX G ?aC ?a ?i ?l ?c ?k ?pg ?hd ?po ?sa ?mk ?kc ?na ?z
   (case aC | a | i | l | c | k | pg | hd | po | sa | mk | kc=>k_is)
   (case na=>(intro f hf;simp only [Yg,JF,or_false]at hf;rcases hf with rfl | rfl | rfl | rfl | rfl | rfl | rfl <;> k_is))
   (case z=>kernel_rfl)
  have h_MOST_PLACES:∃ tk,mg "MOST_PLACES"=some (.int 14 tk):=by
   refine' My.UW KX G ?a ?b
   (case a=>k_is);(case b=>exact⟨_,rfl⟩)
  have h_MOST_TIES:∃ tk,mg "MOST_TIES"=some (.int 30 tk):=by
   refine' My.UW KX G ?a ?b
   (case a=>k_is);(case b=>exact⟨_,rfl⟩)
  have h_FIGURES:∃ tk,mg "FIGURES"=some (.str "0123456789" tk):=by
   refine' My.QC KX G ?a ?b
   (case a=>k_is);(case b=>exact⟨_,rfl⟩)
  have h_MOST_FIGURES:∃ tk,mg "MOST_FIGURES"=some (.int 60 tk):=by
   refine' My.UW KX G ?a ?b
   (case a=>k_is);(case b=>exact⟨_,rfl⟩)
  obtain⟨zw,h_enumerate,zu,zt,GS,zr,zq,LO,h_reversed,zm,NV,zk,zj,LN,zh⟩:mg "any"=none/\mg "enumerate"=none/\mg "int"=none/\mg "len"=none/\mg "list"=none/\mg "max"=none/\mg "min"=none/\mg "range"=none/\mg "reversed"=none/\mg "set"=none/\mg "sorted"=none/\mg "str"=none/\mg "sum"=none/\mg "tuple"=none/\mg "zip"=none:=by and_intros <;> refine' PySem.W.mg_none_of KX G ?_ <;> k_is
  obtain⟨A_Web,aZ8,dZ8,c_Web,fZ8,cl_Web,k_Web,NU⟩:=zx;obtain⟨A_Part,aZB,dZB,zg,c_Part,fZB,cl_Part,k_Part,Wu,zf,ze⟩:=GU;have T:My.Txt (L2.Lf KX) mg ⟨aZ0,aZ1,aZ2,aZ3,aZ4,aZ5,aZ6,aZ7,aZ8,aZ9,aZa,aZb,aZc,aZd,aZe,aZf,aZg,aZh,aZi,aZj,aZk,aZl,aZm,aZn,aZo,aZp,aZq,aZr,aZs,aZt,aZu,aZv,aZw,aZx,aZy,aZz,aZA,aZB,aZC,aZD,aZE,aZF,aZG,aZH,aZI,aZJ,aZK,aZL,aZM,aZN,aZO,aZP,aZQ,aZR,aZS,aZT,aZU,aZV,aZW,aZX,aZY,aZZ,aZ01,aZ11,aZ21,aZ31,aZ41,A_Web,A_Part,dZ0,dZ1,dZ2,dZ3,dZ4,dZ5,dZ6,dZ7,dZ8,dZ9,dZa,dZb,dZc,dZd,dZe,dZf,dZg,dZh,dZi,dZj,dZk,dZl,dZm,dZn,dZo,dZp,dZq,dZr,dZs,dZt,dZu,dZv,dZw,dZx,dZy,dZz,dZA,dZB,dZC,dZD,dZE,dZF,dZG,dZH,dZI,dZJ,dZK,dZL,dZM,dZN,dZO,dZP,dZQ,dZR,dZS,dZT,dZU,dZV,dZW,dZX,dZY,dZZ,dZ01,dZ11,dZ21,dZ31,dZ41⟩:=⟨qZ0,qZ1,qZ2,qZ3,qZ4,qZ5,qZ6,qZ7,fZ8,fZ8.binds (λ_ _ _ _ _ _=>My.bI λ_ _ _=>rfl),qZ9,qZa,qZb,qZc,qZd,qZe,qZf,qZg,qZh,qZi,qZj,qZk,qZl,qZm,qZn,qZo,qZp,qZq,qZr,qZs,qZt,qZu,qZv,qZw,qZx,qZy,qZz,qZA,fZB,fZB.binds (λ_ _ _ _ _ _=>My.un5 λ_ _ _ _ _=>rfl),qZC,qZD,qZE,qZF,qZG,qZH,qZI,qZJ,qZK,qZL,qZM,qZN,qZO,qZP,qZQ,qZR,qZS,qZT,qZU,qZV,qZW,qZX,qZY,qZZ,qZ01,qZ11,qZ21,qZ31,qZ41,c_Web,cl_Web,k_Web,NU _ (by simp),NU _ (by simp),c_Part,cl_Part,k_Part,Wu _ (by simp),Wu _ (by simp),Wu _ (by simp),Wu _ (by simp),Wu _ (by simp),Wu _ (by simp),Wu _ (by simp),h_MOST_PLACES,h_MOST_TIES,h_FIGURES,h_MOST_FIGURES,zw,h_enumerate,zu,zt,GS,zr,zq,LO,h_reversed,zm,NV,zk,zj,LN,zh⟩
  have e0:=DF.symm.trans qZ41.mm;cases e0;exact⟨dZ41,λs u=>My.Qt qZ41.fn s u,λbase _ _ HB=>My.zB T ⟨zg,zf,ze,HB,by decide⟩⟩
#print axioms PySem.Challenge.cw_spanrow_k92_whole_far_numbers_holds
